import Derived.Test.YtcgleggdochbeaaDoorS36
import Derived.Test.YtcgleggdochbeaaDoorS37
namespace Go.Proofs.YtcgleggdochbeaaDoor
open Go.RowKit
set_option maxRecDepth 100000
set_option maxHeartbeats 8000000
set_option linter.unusedVariables false
set_option linter.unusedSimpArgs false
set_option linter.unusedSectionVars false
def AtW (ops : Array Oper) : Prop := match Tryd.f23.body with | some (.seq _ (.seq _ (.seq (.region _ o _) _))) => ops = o | _ => False
abbrev tmW (k : In) (N p : Nat) : Act := { tmps := #[inV k, .pointer (some ⟨N, 0, none⟩), .slice none 0 0, .pointer (some ⟨p, 0, none⟩), .pointer (some ⟨p + 1, 0, none⟩), .pointer (some ⟨p + 1 + 1, 0, none⟩), undef, undef, undef, undef, undef, undef, undef, .agg #[.int .i64 3, .int .i64 4, .int .i64 5, .int .i64 6, .int .i64 7, .int .i64 8, .int .i64 9, .int .i64 10], .agg #[.int .i64 21, .int .i64 22, .int .i64 0, .int .i64 0, .int .i64 23, .int .i64 24, .int .i64 0, .int .i64 25], .agg #[.int .i64 47, .int .i64 48, .int .i64 53, .int .i64 0, .int .i64 49, .int .i64 0, .int .i64 50, .int .i64 0], undef, undef, undef, undef, undef, undef, undef, undef, undef, undef, undef, undef, undef, undef, undef, undef, undef, undef, undef, undef, undef, undef, undef, undef, undef, undef, undef, undef, undef, undef, undef, undef, undef, undef, undef, undef, undef, undef, undef, undef, undef, undef, undef, undef, undef, undef, undef, undef, undef, undef, undef, undef, undef, undef, undef, undef, undef, undef, undef, undef, undef, undef, undef, undef, undef, undef, undef, undef, undef, undef, undef, undef, undef, undef, undef, undef, undef, undef, undef, undef, undef, undef, undef, undef, undef, undef, undef, undef, undef, undef, undef, undef, undef, undef, undef, undef, undef, undef, undef, undef, undef, undef, undef, undef, undef, undef, undef, undef, undef, undef, undef, undef, undef], defers := [] }
abbrev tmWm (k : In) (N p : Nat) (pa pb : Nat) : Act := { tmps := #[inV k, .pointer (some ⟨N, 0, none⟩), .slice none 0 0, .pointer (some ⟨p, 0, none⟩), .pointer (some ⟨p + 1, 0, none⟩), .pointer (some ⟨p + 1 + 1, 0, none⟩), .pointer (some ⟨pa, 0, none⟩), .pointer (some ⟨pb, 0, none⟩), undef, undef, undef, undef, undef, .agg #[.int .i64 3, .int .i64 4, .int .i64 5, .int .i64 6, .int .i64 7, .int .i64 8, .int .i64 9, .int .i64 10], .agg #[.int .i64 21, .int .i64 22, .int .i64 0, .int .i64 0, .int .i64 23, .int .i64 24, .int .i64 0, .int .i64 25], .agg #[.int .i64 47, .int .i64 48, .int .i64 53, .int .i64 0, .int .i64 49, .int .i64 0, .int .i64 50, .int .i64 0], .pointer (some ⟨N, 2, none⟩), opV k.A, .pointer (some ⟨N, 8, none⟩), opV k.B, undef, undef, undef, undef, undef, undef, undef, undef, undef, undef, undef, undef, undef, undef, undef, undef, undef, undef, undef, undef, undef, undef, undef, undef, undef, undef, undef, undef, undef, undef, undef, undef, undef, undef, undef, undef, undef, undef, undef, undef, undef, undef, undef, undef, undef, undef, undef, undef, undef, undef, undef, undef, undef, undef, undef, undef, undef, undef, undef, undef, undef, undef, undef, undef, undef, undef, undef, undef, undef, undef, undef, undef, undef, undef, undef, undef, undef, undef, undef, undef, undef, undef, undef, undef, undef, undef, undef, undef, undef, undef, undef, undef, undef, undef, undef, undef, undef, undef, undef, undef, undef, undef, undef, undef, undef, undef, undef, undef, undef], defers := [] }
abbrev tmWe (k : In) (N p : Nat) (pa pb : Nat) : Act := { tmps := #[inV k, .pointer (some ⟨N, 0, none⟩), .slice none 0 0, .pointer (some ⟨p, 0, none⟩), .pointer (some ⟨p + 1, 0, none⟩), .pointer (some ⟨p + 1 + 1, 0, none⟩), .pointer (some ⟨pa, 0, none⟩), .pointer (some ⟨pb, 0, none⟩), undef, undef, undef, undef, undef, .agg #[.int .i64 3, .int .i64 4, .int .i64 5, .int .i64 6, .int .i64 7, .int .i64 8, .int .i64 9, .int .i64 10], .agg #[.int .i64 21, .int .i64 22, .int .i64 0, .int .i64 0, .int .i64 23, .int .i64 24, .int .i64 0, .int .i64 25], .agg #[.int .i64 47, .int .i64 48, .int .i64 53, .int .i64 0, .int .i64 49, .int .i64 0, .int .i64 50, .int .i64 0], .pointer (some ⟨N, 2, none⟩), opV k.A, .pointer (some ⟨N, 8, none⟩), opV k.B, undef, undef, undef, undef, undef, undef, undef, undef, undef, undef, undef, undef, undef, undef, undef, undef, undef, undef, undef, undef, undef, undef, undef, undef, undef, undef, undef, undef, undef, undef, undef, undef, undef, undef, undef, undef, undef, undef, undef, undef, undef, undef, undef, undef, undef, undef, undef, undef, undef, undef, undef, undef, undef, undef, undef, undef, undef, undef, undef, undef, undef, undef, undef, undef, undef, undef, undef, undef, undef, undef, undef, undef, undef, undef, undef, undef, undef, undef, undef, undef, undef, undef, undef, undef, undef, undef, undef, undef, undef, undef, undef, undef, undef, undef, undef, undef, undef, undef, undef, undef, undef, undef, undef, undef, undef, undef, undef, undef, undef], defers := [] }
theorem open_W {ops : Array Oper} (ho : AtW ops) {Q : Exit → Act → World → Prop} (hp : ∀ x a d v w, Q (.panic x) (Act.put a (some d) v) w → Q (.panic x) a w) {k : In} {N p : Nat} {W : World} (kI : Blk W N 26 (in16 k))
  (h : ∀ W' pa pb, Fr W' N k pa pb → Below W.heap.size W W' → W.heap.size ≤ pa → W.heap.size ≤ pb → Q .normal (tmWe k N p pa pb) W') : (Code.region 2 ops true).wp Tryd.prog Q (tmW k N p) W := by
 unfold AtW at ho
 dsimp only [Tryd.f23] at ho
 subst ho
 have hQ := Lib.hid h
 clear h
 have hd : Below W.heap.size W W.drew := (Below.refl _ _).drew
 have hNW := kI.lt
 refine wp_region_held_drew (S := fun W => Blk W N 26 (in16 k)) (by kernel_rfl) kI.drew (fun hH0 => ?_)
 have hsz : W.heap.size = W.drew.heap.size := rfl
 generalize W.drew = W0 at *
 refine wpAnyH_take (i := 0) (v := ?_) rfl (by kernel_rfl) (by kernel_rfl) (by kernel_rfl) (fun _ _ _ h => hp _ _ _ _ _ h) (Or.inl ⟨by kernel_rfl, ?_⟩) hH0 ?_
 rotate_left
 ·intro W hS
  go_simp
  try rfl
 simp only [pT]
 refine wpAnyH_take (i := 1) (v := opV k.A) rfl (by kernel_rfl) (by kernel_rfl) (by kernel_rfl) (fun _ _ _ h => hp _ _ _ _ _ h) (Or.inl ⟨by kernel_rfl, ?_⟩) hH0 ?_
 ·intro W hS
  exact run_load_op rfl rfl k.A (rangeA hS)
 simp only [pS]
 refine wpAnyH_take (i := 2) (v := ?_) rfl (by kernel_rfl) (by kernel_rfl) (by kernel_rfl) (fun _ _ _ h => hp _ _ _ _ _ h) (Or.inl ⟨by kernel_rfl, ?_⟩) hH0 ?_
 rotate_left
 ·intro W hS
  go_simp
  try rfl
 simp only [pT]
 refine wpAnyH_take (i := 3) (v := opV k.B) rfl (by kernel_rfl) (by kernel_rfl) (by kernel_rfl) (fun _ _ _ h => hp _ _ _ _ _ h) (Or.inl ⟨by kernel_rfl, ?_⟩) hH0 ?_
 ·intro W hS
  exact run_load_op rfl rfl k.B (rangeB hS)
 simp only [pS]
 refine named_H (fun R hR => ?_)
 have H2 : ∀ (W1 : World) (pa pb : Nat), Blk W1 N 26 (in16 k) → Below W.heap.size W W1 → Blk W1 pa 24 z6 → Blk W1 pb 24 z6 → W.heap.size ≤ pa → W.heap.size ≤ pb → pa ≠ pb → R 2 #[true, true, true, true, true, true, false, false] (tmWm k N p pa pb) W1 := by
  intro W1 pa pb kI kb ka kc na nb hne
  rw [hR]
  refine rd 6 (fun K hK => ?_)
  rw [if_pos (by kernel_rfl)]
  refine wp_store_row 24 _ _ rfl pa (op6 k.A) rfl rfl 24 z6 ka.h (szOp k.A) rfl (one_op k.A) ?_
  replace kc := kc.rowOther (M := pa) (op6 k.A) (Ne.symm hne)
  replace kI := kI.rowOther (M := pa) (op6 k.A) (Nat.ne_of_lt (Nat.lt_of_lt_of_le hNW na))
  replace kb := below_rowNew kb na (op6 k.A)
  have ka' := ka.row (op6 k.A)
  clear ka
  have ka := ka'
  clear ka'
  refine hK.out _ _ kI (fun _ => ?_)
  clear hK K
  try simp only [pT]
  refine rd 7 (fun K hK => ?_)
  rw [if_pos (by kernel_rfl)]
  refine wp_store_row 24 _ _ rfl pb (op6 k.B) rfl rfl 24 z6 kc.h (szOp k.B) rfl (one_op k.B) ?_
  replace ka := ka.rowOther (M := pb) (op6 k.B) hne
  replace kI := kI.rowOther (M := pb) (op6 k.B) (Nat.ne_of_lt (Nat.lt_of_lt_of_le hNW nb))
  replace kb := below_rowNew kb nb (op6 k.B)
  have kc' := kc.row (op6 k.B)
  clear kc
  have kc := kc'
  clear kc'
  refine hK.out _ _ kI (fun _ => ?_)
  clear hK K
  try simp only [pT]
  refine wpAnyH_done (by kernel_rfl) ?_ _
  exact hQ.out _ _ _ ⟨kI, ka, kc⟩ kb na nb
 have kN := Blk.new W0 24 z6
 have l0 := hH0.lt
 have kI1 := hH0.alloc (.cells z6 24)
 have b1 := hd.alloc (Nat.le_of_eq hsz) (.cells z6 24)
 have kN2 := kN.alloc (.cells z6 24)
 have kM := Blk.new (W0.alloc (.cells z6 24)) 24 z6
 have kI2 := kI1.alloc (.cells z6 24)
 have b2 := b1.alloc (Nat.le_of_lt (by simp; omega)) (.cells z6 24)
 rw [World.size_alloc] at kM
 have z1 := H2 _ _ _ kI2 b2 kN2 kM (Nat.le_of_eq hsz) (by omega) (by omega)
 have z2 := H2 _ _ _ kI2 b2 kM kN2 (by omega) (Nat.le_of_eq hsz) (by omega)
 rw [hR] at z1 z2 ⊢
 clear H2
 refine wpAnyH_ready (rs := [4, 5]) (by kernel_rfl) (by simp) ?_
 refine AllReadyH.cons rfl (fun K hK => ?_) (AllReadyH.cons rfl (fun K hK => ?_) AllReadyH.nil)
 ·clear z2
  go_simp
  refine hK.out _ _ kI1 (fun _ => ?_)
  clear hK K
  try simp only [pT]
  refine rd 5 (fun K hK => ?_)
  go_simp
  exact hK.out _ _ kI2 (fun _ => z1)
 ·clear z1
  go_simp
  refine hK.out _ _ kI1 (fun _ => ?_)
  clear hK K
  try simp only [pT]
  refine rd 4 (fun K hK => ?_)
  go_simp
  exact hK.out _ _ kI2 (fun _ => z2)
theorem arr3 (w : World) (a b c : Array Value) (t : TypeId) : Blk (((w.alloc (.cells a t)).alloc (.cells b t)).alloc (.cells c t)) w.heap.size t a ∧ Blk (((w.alloc (.cells a t)).alloc (.cells b t)).alloc (.cells c t)) (w.heap.size + 1) t b ∧ Blk (((w.alloc (.cells a t)).alloc (.cells b t)).alloc (.cells c t)) (w.heap.size + 1 + 1) t c
  ∧ Below w.heap.size w (((w.alloc (.cells a t)).alloc (.cells b t)).alloc (.cells c t)) := by
 obtain ⟨h1, h2, h3⟩ := alloc3 w (.cells a t) (.cells b t) (.cells c t)
 exact ⟨⟨h1⟩, ⟨h2⟩, ⟨h3⟩, (((Below.refl _ w).alloc (Nat.le_refl _) _).alloc (by simp) _).alloc (by simp; omega) _⟩
abbrev NoFix (k : In) : Prop := ∀ w : World, Calls Tryd.prog 46 #[inV k] w fun e w' => e = .returned (.slice none 0 0) ∧ Below w.heap.size w w'
theorem w_fix (k : In) (zs : List Int) (h0 : zs ≠ []) (h12 : zs.length ≤ 12) (hF : ∀ w : World, Calls Tryd.prog 46 #[inV k] w fun e w' => ∃ v, e = .returned v ∧ Own w' w.heap.size v zs ∧ Below w.heap.size w w') (w : World) : Gives 23 k w ([zs]) := by
 have hf := Lib.hid hF
 clear hF
 have h8 := Lib.hid groups_ref
 have h9 := Lib.hid shifts_ref
 have h10 := Lib.hid numbers_ref
 go_enter Tryd.func23, Tryd.ntmps23
 go_upto_region 2 with (first | ((with_reducible refine (h8.out _).mono ?_); rintro e w8 ⟨rfl, b8⟩) | ((with_reducible refine (h9.out _).mono ?_); rintro e w9 ⟨rfl, b9⟩) | ((with_reducible refine (h10.out _).mono ?_); rintro e w10 ⟨rfl, b10⟩))
 clear h8 h9 h10
 obtain ⟨K3, K4, K5, ba⟩ := arr3 w10 #[.int .i64 3, .int .i64 4, .int .i64 5, .int .i64 6, .int .i64 7, .int .i64 8, .int .i64 9, .int .i64 10] #[.int .i64 21, .int .i64 22, .int .i64 0, .int .i64 0, .int .i64 23, .int .i64 24, .int .i64 0, .int .i64 25] #[.int .i64 47, .int .i64 48, .int .i64 53, .int .i64 0, .int .i64 49, .int .i64 0, .int .i64 50, .int .i64 0] 43
 have bz : Below w.heap.size w w8 := bel1 (Below.refl _ _) (Nat.le_refl _) b8
 replace bz := bz.trans (b9.mono bz.size)
 replace bz := bz.trans (b10.mono bz.size)
 replace bz := bz.trans (ba.mono bz.size)
 have kI := (Blk.new w 26 (in16 k)).below (((b8.trans (b9.mono b8.size)).trans (b10.mono (Nat.le_trans b8.size b9.size))).trans (ba.mono (Nat.le_trans b8.size (Nat.le_trans b9.size b10.size)))) (Blk.new w 26 (in16 k)).lt
 clear b8 b9 b10 ba
 generalize (((w10.alloc (.cells #[.int .i64 3, .int .i64 4, .int .i64 5, .int .i64 6, .int .i64 7, .int .i64 8, .int .i64 9, .int .i64 10] 43)).alloc (.cells #[.int .i64 21, .int .i64 22, .int .i64 0, .int .i64 0, .int .i64 23, .int .i64 24, .int .i64 0, .int .i64 25] 43)).alloc (.cells #[.int .i64 47, .int .i64 48, .int .i64 53, .int .i64 0, .int .i64 49, .int .i64 0, .int .i64 50, .int .i64 0] 43)) = W1 at *
 generalize w10.heap.size = p at *
 refine open_W rfl (fun _ _ _ _ _ h => h) kI (fun W pa pb F b na nb => ?_)
 replace bz := bz.trans (b.mono bz.size)
 replace K3 := K3.below b K3.lt
 replace K4 := K4.below b K4.lt
 replace K5 := K5.below b K5.lt
 clear b kI na nb
 go_upto_region 4 with (first | (with_reducible refine load_inR rfl _ rfl w.heap.size (in16 k) rfl F.i (in16_size _) ?_) | ((with_reducible refine (hf.out _).mono ?_); rintro e V ⟨v1, rfl, O1, x1⟩; obtain ⟨a1, q1, e1, -⟩ := id O1.ba; generalize hl1 : List.length _ = l1 at e1; subst e1))
 have F0 := F.below x1
 have J3 := K3.below x1 K3.lt
 have J4 := K4.below x1 K4.lt
 have J5 := K5.below x1 K5.lt
 have b0 := bz.trans (x1.mono bz.size)
 have bw0 := bz
 clear F K3 K4 K5 bz
 have hgt : ((0 : Int) < (l1 : Int)) = True := eq_true (by cases zs with | nil => exact absurd rfl h0 | cons => simp at hl1; omega)
 have hgt2 : (0 < l1) = True := eq_true (by cases zs with | nil => exact absurd rfl h0 | cons => simp at hl1; omega)
 have hl := Lib.hid hl1
 clear hl1
 go_wp2_with fail
 go_ret
 exact ⟨.slice (some ⟨V.heap.size, 0, none⟩) 1 1, rfl, LL.uni b0.size (O1.base bw0.size) h0, b0.alloc b0.size _⟩
theorem w_both (k : In) (hN0 : NoFix k) (g : Int) (hn : 0 ≤ g ∧ g < 8) (h3 : atN [3, 4, 5, 6, 7, 8, 9, 10] k.op 0 = g) (hk : (k.B.k == 2) = false) (hA : RMb k.A) (hB : RMb k.B) (h : k.A.k = 1 ∨ k.B.k = 1) (w : World) : Gives 23 k w (bothW (8 * g + 1) (8 * g + 3) k.A k.B) := by
 have hg0 : ((0 : Int) ≤ g) = True := eq_true hn.1
 have hw8 : IntKind.i64.wrap (8 * g) = 8 * g := by rw [IntKind.wrap_i64]; omega
 have hi1 : IntKind.i64.wrap (8 * g + 1) = 8 * g + 1 := by rw [IntKind.wrap_i64]; omega
 have hu1 : IntKind.u8.wrap (8 * g + 1) = 8 * g + 1 := by rw [IntKind.wrap_u8]; omega
 have hb1 : 0 ≤ 8 * g + 1 ∧ 8 * g + 1 ≤ 255 := by omega
 have hi3 : IntKind.i64.wrap (8 * g + 3) = 8 * g + 3 := by rw [IntKind.wrap_i64]; omega
 have hu3 : IntKind.u8.wrap (8 * g + 3) = 8 * g + 3 := by rw [IntKind.wrap_u8]; omega
 have hb3 : 0 ≤ 8 * g + 3 ∧ 8 * g + 3 ≤ 255 := by omega
 have hA3 := Lib.hid (fun W B (h : Blk W B 43 #[.int .i64 3, .int .i64 4, .int .i64 5, .int .i64 6, .int .i64 7, .int .i64 8, .int .i64 9, .int .i64 10]) => at_any [3, 4, 5, 6, 7, 8, 9, 10] k.op W B 8 43 rfl (by decide) h)
 rw [h3] at hA3
 have hT := Lib.hid (fun W => both_any (8 * g + 1) (8 * g + 3) hb1 hb3 k.A k.B hA hB h W)
 clear hb1 hb3 h3 hn
 have hN := Lib.hid hN0
 clear hN0
 have h8 := Lib.hid groups_ref
 have h9 := Lib.hid shifts_ref
 have h10 := Lib.hid numbers_ref
 go_enter Tryd.func23, Tryd.ntmps23
 go_upto_region 2 with (first | ((with_reducible refine (h8.out _).mono ?_); rintro e w8 ⟨rfl, b8⟩) | ((with_reducible refine (h9.out _).mono ?_); rintro e w9 ⟨rfl, b9⟩) | ((with_reducible refine (h10.out _).mono ?_); rintro e w10 ⟨rfl, b10⟩))
 clear h8 h9 h10
 obtain ⟨K3, K4, K5, ba⟩ := arr3 w10 #[.int .i64 3, .int .i64 4, .int .i64 5, .int .i64 6, .int .i64 7, .int .i64 8, .int .i64 9, .int .i64 10] #[.int .i64 21, .int .i64 22, .int .i64 0, .int .i64 0, .int .i64 23, .int .i64 24, .int .i64 0, .int .i64 25] #[.int .i64 47, .int .i64 48, .int .i64 53, .int .i64 0, .int .i64 49, .int .i64 0, .int .i64 50, .int .i64 0] 43
 have bz : Below w.heap.size w w8 := bel1 (Below.refl _ _) (Nat.le_refl _) b8
 replace bz := bz.trans (b9.mono bz.size)
 replace bz := bz.trans (b10.mono bz.size)
 replace bz := bz.trans (ba.mono bz.size)
 have kI := (Blk.new w 26 (in16 k)).below (((b8.trans (b9.mono b8.size)).trans (b10.mono (Nat.le_trans b8.size b9.size))).trans (ba.mono (Nat.le_trans b8.size (Nat.le_trans b9.size b10.size)))) (Blk.new w 26 (in16 k)).lt
 clear b8 b9 b10 ba
 generalize (((w10.alloc (.cells #[.int .i64 3, .int .i64 4, .int .i64 5, .int .i64 6, .int .i64 7, .int .i64 8, .int .i64 9, .int .i64 10] 43)).alloc (.cells #[.int .i64 21, .int .i64 22, .int .i64 0, .int .i64 0, .int .i64 23, .int .i64 24, .int .i64 0, .int .i64 25] 43)).alloc (.cells #[.int .i64 47, .int .i64 48, .int .i64 53, .int .i64 0, .int .i64 49, .int .i64 0, .int .i64 50, .int .i64 0] 43)) = W1 at *
 generalize w10.heap.size = p at *
 refine open_W rfl (fun _ _ _ _ _ h => h) kI (fun W pa pb F b na nb => ?_)
 replace bz := bz.trans (b.mono bz.size)
 replace K3 := K3.below b K3.lt
 replace K4 := K4.below b K4.lt
 replace K5 := K5.below b K5.lt
 clear b kI na nb
 go_upto_region 4 with (first | (with_reducible refine load_inR rfl _ rfl w.heap.size (in16 k) rfl F.i (in16_size _) ?_) | ((with_reducible refine (hN.out _).mono ?_); rintro e V ⟨rfl, x1⟩))
 have F0 := F.below x1
 have J3 := K3.below x1 K3.lt
 have J4 := K4.below x1 K4.lt
 have J5 := K5.below x1 K5.lt
 have b0 := bz.trans (x1.mono bz.size)
 clear F K3 K4 K5 bz
 clear x1
 generalize V = W at *
 have F := F0
 have K3 := J3
 have K4 := J4
 have K5 := J5
 have bz := b0
 clear F0 J3 J4 J5 b0
 go_upto_region 7 with fail
 have bD := (Below.refl W.heap.size W).drew
 have F0 := F.below bD
 have J3 := K3.below bD K3.lt
 have J4 := K4.below bD K4.lt
 have J5 := K5.below bD K5.lt
 have b0 := bz.trans (bD.mono bz.size)
 clear F K3 K4 K5 bz
 clear bD
 refine wp_region_held_drew (S := fun V => Blk V w.heap.size 26 (in16 k) ∧ Blk V p 43 #[.int .i64 3, .int .i64 4, .int .i64 5, .int .i64 6, .int .i64 7, .int .i64 8, .int .i64 9, .int .i64 10]) (by kernel_rfl) ⟨F0.i, J3⟩ (fun hH => ?_)
 generalize W.drew = W at *
 have F := F0
 have K3 := J3
 have K4 := J4
 have K5 := J5
 have bz := b0
 clear F0 J3 J4 J5 b0
 refine tk 0 ?_ ?_ hH ?_
 rotate_left
 ·intro W hS
  go_simp
  try rfl
 simp only [pT]
 refine tk 1 ?_ ?_ hH ?_
 rotate_left
 ·intro W hS
  go_simp
  try rfl
 simp only [pT]
 refine tk 2 ?_ ?_ hH ?_
 rotate_left
 ·intro W hS
  have c0 := hS.1.cell (i := 0) (v := .int .i64 k.op) rfl
  go_simp
  try rfl
 simp only [pT]
 refine rd 3 (fun K hK => ?_)
 go_simp
 with_reducible refine (hA3.out _ _ hH.2).mono ?_
 rintro e wz ⟨rfl, hwz⟩
 replace hwz := hwz.symm
 subst hwz
 refine hK.out _ _ hH (fun _ => ?_)
 clear hK K
 try simp only [pS]
 refine tk 4 ?_ ?_ hH ?_
 rotate_left
 ·intro W hS
  go_simp
  try rfl
 simp only [pT]
 refine wpAnyH_done (by kernel_rfl) ?_ _
 clear hH
 have bW := Below.refl W.heap.size W
 have b0 := bz
 have pa_lt := F.a.lt
 have pb_lt := F.b.lt
 have cB0 := F.b.cell (i := 0) (v := .int .i64 k.B.k) rfl
 go_upto_region 15 with fail
 go_wp2_with (first | (with_reducible refine load_opR rfl _ rfl pa (op6 k.A) rfl F.a rfl ?_) | (with_reducible refine load_opR rfl _ rfl pb (op6 k.B) rfl F.b rfl ?_) | ((with_reducible refine (hT.out _).mono ?_); rintro e w1 ⟨v1, rfl, L1, x1⟩))
 go_ret
 exact ⟨v1, rfl, L1.base b0.size, b0.trans (x1.mono b0.size)⟩
theorem w_imm_tt (k : In) (hN0 : NoFix k) (g : Int) (hn : 0 ≤ g ∧ g < 8) (h3 : atN [3, 4, 5, 6, 7, 8, 9, 10] k.op 0 = g) (hk : (k.B.k == 2) = true) (h0 : isR0 k.A = true) (hf : fitI k.B.m = true) (hX : RMb k.A) (hm : 0 ≤ k.B.m ∧ k.B.m ≤ 4294967295) (w : World) : Gives 23 k w ((([] ++ [[8 * g + 5] ++ wB k.B.m]) ++ b1 (mW [131] k.A (g)) k.B.m) ++ b4 (mW [129] k.A (g)) k.B.m) := by
 have hg0 : ((0 : Int) ≤ g) = True := eq_true hn.1
 have hw8 : IntKind.i64.wrap (8 * g) = 8 * g := by rw [IntKind.wrap_i64]; omega
 have hi5 : IntKind.i64.wrap (8 * g + 5) = 8 * g + 5 := by rw [IntKind.wrap_i64]; omega
 have hu5 : IntKind.u8.wrap (8 * g + 5) = 8 * g + 5 := by rw [IntKind.wrap_u8]; omega
 have hb5 : 0 ≤ 8 * g + 5 ∧ 8 * g + 5 ≤ 255 := by omega
 have hA3 := Lib.hid (fun W B (h : Blk W B 43 #[.int .i64 3, .int .i64 4, .int .i64 5, .int .i64 6, .int .i64 7, .int .i64 8, .int .i64 9, .int .i64 10]) => at_any [3, 4, 5, 6, 7, 8, 9, 10] k.op W B 8 43 rfl (by decide) h)
 rw [h3] at hA3
 have hB := Lib.hid hm
 have hM1 := Lib.hid (fun W => mod_one W (show 0 ≤ (131 : Int) ∧ (131 : Int) ≤ 255 by decide) hX hn)
 have hM4 := Lib.hid (fun W => mod_one W (show 0 ≤ (129 : Int) ∧ (129 : Int) ≤ 255 by decide) hX hn)
 have hG := Lib.hid (fun W => reg_ref 0 W)
 have hP := Lib.hid (fun W => put_one W hb5 hm)
 have hF := Lib.hid (fun W => fits_any k.B.m hm W)
 rw [hf] at hF
 have l131 := mW_len [131] k.A (g)
 have hN := Lib.hid hN0
 clear hN0
 have h8 := Lib.hid groups_ref
 have h9 := Lib.hid shifts_ref
 have h10 := Lib.hid numbers_ref
 go_enter Tryd.func23, Tryd.ntmps23
 go_upto_region 2 with (first | ((with_reducible refine (h8.out _).mono ?_); rintro e w8 ⟨rfl, b8⟩) | ((with_reducible refine (h9.out _).mono ?_); rintro e w9 ⟨rfl, b9⟩) | ((with_reducible refine (h10.out _).mono ?_); rintro e w10 ⟨rfl, b10⟩))
 clear h8 h9 h10
 obtain ⟨K3, K4, K5, ba⟩ := arr3 w10 #[.int .i64 3, .int .i64 4, .int .i64 5, .int .i64 6, .int .i64 7, .int .i64 8, .int .i64 9, .int .i64 10] #[.int .i64 21, .int .i64 22, .int .i64 0, .int .i64 0, .int .i64 23, .int .i64 24, .int .i64 0, .int .i64 25] #[.int .i64 47, .int .i64 48, .int .i64 53, .int .i64 0, .int .i64 49, .int .i64 0, .int .i64 50, .int .i64 0] 43
 have bz : Below w.heap.size w w8 := bel1 (Below.refl _ _) (Nat.le_refl _) b8
 replace bz := bz.trans (b9.mono bz.size)
 replace bz := bz.trans (b10.mono bz.size)
 replace bz := bz.trans (ba.mono bz.size)
 have kI := (Blk.new w 26 (in16 k)).below (((b8.trans (b9.mono b8.size)).trans (b10.mono (Nat.le_trans b8.size b9.size))).trans (ba.mono (Nat.le_trans b8.size (Nat.le_trans b9.size b10.size)))) (Blk.new w 26 (in16 k)).lt
 clear b8 b9 b10 ba
 generalize (((w10.alloc (.cells #[.int .i64 3, .int .i64 4, .int .i64 5, .int .i64 6, .int .i64 7, .int .i64 8, .int .i64 9, .int .i64 10] 43)).alloc (.cells #[.int .i64 21, .int .i64 22, .int .i64 0, .int .i64 0, .int .i64 23, .int .i64 24, .int .i64 0, .int .i64 25] 43)).alloc (.cells #[.int .i64 47, .int .i64 48, .int .i64 53, .int .i64 0, .int .i64 49, .int .i64 0, .int .i64 50, .int .i64 0] 43)) = W1 at *
 generalize w10.heap.size = p at *
 refine open_W rfl (fun _ _ _ _ _ h => h) kI (fun W pa pb F b na nb => ?_)
 replace bz := bz.trans (b.mono bz.size)
 replace K3 := K3.below b K3.lt
 replace K4 := K4.below b K4.lt
 replace K5 := K5.below b K5.lt
 clear b kI na nb
 go_upto_region 4 with (first | (with_reducible refine load_inR rfl _ rfl w.heap.size (in16 k) rfl F.i (in16_size _) ?_) | ((with_reducible refine (hN.out _).mono ?_); rintro e V ⟨rfl, x1⟩))
 have F0 := F.below x1
 have J3 := K3.below x1 K3.lt
 have J4 := K4.below x1 K4.lt
 have J5 := K5.below x1 K5.lt
 have b0 := bz.trans (x1.mono bz.size)
 clear F K3 K4 K5 bz
 clear x1
 generalize V = W at *
 have F := F0
 have K3 := J3
 have K4 := J4
 have K5 := J5
 have bz := b0
 clear F0 J3 J4 J5 b0
 go_upto_region 7 with fail
 have bD := (Below.refl W.heap.size W).drew
 have F0 := F.below bD
 have J3 := K3.below bD K3.lt
 have J4 := K4.below bD K4.lt
 have J5 := K5.below bD K5.lt
 have b0 := bz.trans (bD.mono bz.size)
 clear F K3 K4 K5 bz
 clear bD
 refine wp_region_held_drew (S := fun V => Blk V w.heap.size 26 (in16 k) ∧ Blk V p 43 #[.int .i64 3, .int .i64 4, .int .i64 5, .int .i64 6, .int .i64 7, .int .i64 8, .int .i64 9, .int .i64 10]) (by kernel_rfl) ⟨F0.i, J3⟩ (fun hH => ?_)
 generalize W.drew = W at *
 have F := F0
 have K3 := J3
 have K4 := J4
 have K5 := J5
 have bz := b0
 clear F0 J3 J4 J5 b0
 refine tk 0 ?_ ?_ hH ?_
 rotate_left
 ·intro W hS
  go_simp
  try rfl
 simp only [pT]
 refine tk 1 ?_ ?_ hH ?_
 rotate_left
 ·intro W hS
  go_simp
  try rfl
 simp only [pT]
 refine tk 2 ?_ ?_ hH ?_
 rotate_left
 ·intro W hS
  have c0 := hS.1.cell (i := 0) (v := .int .i64 k.op) rfl
  go_simp
  try rfl
 simp only [pT]
 refine rd 3 (fun K hK => ?_)
 go_simp
 with_reducible refine (hA3.out _ _ hH.2).mono ?_
 rintro e wz ⟨rfl, hwz⟩
 replace hwz := hwz.symm
 subst hwz
 refine hK.out _ _ hH (fun _ => ?_)
 clear hK K
 try simp only [pS]
 refine tk 4 ?_ ?_ hH ?_
 rotate_left
 ·intro W hS
  go_simp
  try rfl
 simp only [pT]
 refine wpAnyH_done (by kernel_rfl) ?_ _
 clear hH
 have cB0 := F.b.cell (i := 0) (v := .int .i64 k.B.k) rfl
 go_upto_region 9 with fail
 clear cB0
 have bD := (Below.refl W.heap.size W).drew
 have F0 := F.below bD
 have J3 := K3.below bD K3.lt
 have J4 := K4.below bD K4.lt
 have J5 := K5.below bD K5.lt
 have b0 := bz.trans (bD.mono bz.size)
 clear F K3 K4 K5 bz
 clear bD
 refine wp_region_held_drew (S := fun V => Blk V pa 24 (op6 k.A)) (by kernel_rfl) F0.a (fun hH => ?_)
 generalize W.drew = W at *
 have F := F0
 have K3 := J3
 have K4 := J4
 have K5 := J5
 have bz := b0
 clear F0 J3 J4 J5 b0
 refine tk 0 (opV k.A) ?_ hH ?_
 ·intro W hS
  exact run_load_row (by rfl) (by rfl) 24 _ (0, 0) _ hS.h Tryd.underlying24 rfl (szOp k.A)
 simp only [pS]
 refine rd 1 (fun K hK => ?_)
 go_simp
 with_reducible refine (hG.out _).mono ?_
 rintro e V ⟨rfl, x1⟩
 have hH1 := hH.below x1 hH.lt
 refine hK.out _ _ hH1 (fun _ => ?_)
 clear hK K
 try simp only [pS]
 refine tk 2 (.bool true) ?_ hH1 ?_
 ·intro W hS
  go_simp
  obtain ⟨q1, q2, q3, q4, q5, q6⟩ := R0_parts h0
  rw [if_pos q1, if_pos q2, if_pos q3, if_pos q4, if_pos q5, if_pos q6]
 simp only [pS]
 refine wpAnyH_done (by kernel_rfl) ?_ _
 clear hH hH1
 have F0 := F.below x1
 have J3 := K3.below x1 K3.lt
 have J4 := K4.below x1 K4.lt
 have J5 := K5.below x1 K5.lt
 have b0 := bz.trans (x1.mono bz.size)
 clear F K3 K4 K5 bz
 clear x1
 generalize V = W at *
 have F := F0
 have K3 := J3
 have K4 := J4
 have K5 := J5
 have bz := b0
 clear F0 J3 J4 J5 b0
 have bW := Below.refl W.heap.size W
 have b0 := bz
 have pa_lt := F.a.lt
 have pb_lt := F.b.lt
 go_upto_region 10 with fail
 have cm1 := (F.b.alloc (arr1 (8 * g + 5))).cell (i := 2) (v := .int .u32 k.B.m) rfl
 go_upto_region 11 with (first | ((with_reducible refine (hP.out _).mono ?_); rintro e u1 ⟨p1, rfl, O1, x1⟩; obtain ⟨a1, q1, e1, -⟩ := id O1.ba; generalize List.length _ = l1 at e1; subst e1; have x1' : Below W.heap.size W u1 := x1) | (at_builtin; refine append_one rfl _ _ rfl W.heap.size (.slice none 0 0) ([]) rfl (LL.nil _ _) (Nat.le_trans bW.size x1.size) O1 (fun k hk => by cases hk) rfl (by simp) ?_; intro v1 w1 L1 g1))
 have z1 : Below W.heap.size W w1 := (bW.trans (x1.mono bW.size)).trans g1
 have F1 := F.below z1
 have cf := F1.b.cell (i := 2) (v := .int .u32 k.B.m) rfl
 go_upto_region 12 with (first | ((with_reducible refine (hF.out _).mono ?_); rintro e wf ⟨rfl, hwf⟩; subst hwf))
 clear cf
 have k2 : Blk w1.drew pa 24 (op6 k.A) ∧ Blk w1.drew pb 24 (op6 k.B) := ⟨F1.a.drew, F1.b.drew⟩
 refine wp_region_held_drew (S := fun V => Blk V pa 24 (op6 k.A) ∧ Blk V pb 24 (op6 k.B)) (by kernel_rfl) k2 (fun hH2 => ?_)
 clear k2
 have d2 := (Below.refl w1.heap.size w1).drew
 have LD2 := L1.below d2
 have hsz2 : w1.heap.size = w1.drew.heap.size := rfl
 generalize w1.drew = D2 at *
 refine tk 0 ?_ ?_ hH2 ?_
 rotate_left
 ·intro W hS
  go_simp
  try rfl
 simp only [pT]
 refine tk 2 (opV k.A) ?_ hH2 ?_
 ·intro W hS
  exact run_load_row (by rfl) (by rfl) 24 _ (0, 0) _ hS.1.h Tryd.underlying24 rfl (szOp k.A)
 simp only [pS]
 refine tk 3 ?_ ?_ hH2 ?_
 rotate_left
 ·intro W hS
  go_simp
  try rfl
 simp only [pT]
 refine tk 5 ?_ ?_ hH2 ?_
 rotate_left
 ·intro W hS
  go_simp
  try rfl
 simp only [pT]
 refine tk 6 ?_ ?_ hH2 ?_
 rotate_left
 ·intro W hS
  have c2 := hS.2.cell (i := 2) (v := .int .u32 k.B.m) rfl
  go_simp
  try rfl
 simp only [pT]
 refine rd 1 (fun K hK => ?_)
 go_simp
 have hA2 := And.intro (hH2.1.alloc (arr1 (131))) (hH2.2.alloc (arr1 (131)))
 refine hK.out _ _ hA2 (fun _ => ?_)
 clear hK K
 try simp only [pT]
 refine rd 4 (fun K hK => ?_)
 go_simp
 with_reducible refine (hM1.out _).mono ?_
 rintro e u2 ⟨p2, vs2, rfl, R2, x2⟩
 have hB2 := And.intro (hH2.1.below x2 hH2.1.lt) (hH2.2.below x2 hH2.2.lt)
 refine hK.out _ _ hB2 (fun _ => ?_)
 clear hK K
 try simp only [pS]
 refine rd 7 (fun K hK => ?_)
 go_simp
 with_reducible refine (behind_one _ _ _ _ k.B.m hB.out _ R2 x2.size (fun y hy => mW_short hX hn y hy) (by have := mW_len [131] k.A (g); omega)).mono ?_
 rintro e t2 ⟨rfl, ⟨us2, S2⟩, y2⟩
 have y2' := (Below.mono y2 (Nat.le_refl _))
 have hC2 := And.intro (hB2.1.below y2 hH2.1.lt) (hB2.2.below y2 hH2.2.lt)
 refine hK.out _ _ hC2 (fun _ => ?_)
 clear hK K
 try simp only [pS]
 refine rd 8 (fun K hK => ?_)
 rw [if_pos (by kernel_rfl)]
 refine append_lsK _ _ rfl W.heap.size _ v1 _ ([] ++ [[8 * g + 5] ++ wB k.B.m]) _ us2 rfl (LD2.below (x2.trans y2')) (Nat.le_trans z1.size (Nat.le_trans (Nat.le_of_eq hsz2) (Nat.le_trans x2.size y2.size))) rfl S2 (fun k hk => (LD2.lt hk).2) (by simp [b1, mW_ne hX]) (by have := mW_len [131] k.A (g); simp [b1, b4]; omega) (fun v2 w2 L2 g2 => ?_)
 have hE2 := And.intro ((hC2.1).below (g2.mono (Nat.le_refl _)) pa_lt) ((hC2.2).below g2 pb_lt)
 refine hK.out _ _ hE2 (fun _ => ?_)
 clear hK K
 try simp only [pT]
 refine tk 9 ?_ ?_ hE2 ?_
 rotate_left
 ·intro W hS
  go_simp
  try rfl
 simp only [pT]
 refine wpAnyH_done (by kernel_rfl) ?_ _
 have x2' : Below w1.heap.size w1 t2 := ((d2.trans (x2.mono (Nat.le_of_eq hsz2))).trans (y2.mono (Nat.le_of_eq hsz2)))
 replace x2 := x2'
 go_upto_region 13 with fail
 have z2 : Below W.heap.size W w2 := (z1.trans (x2.mono z1.size)).trans g2
 have F2 := F.below z2
 have k3 : Blk w2.drew pa 24 (op6 k.A) ∧ Blk w2.drew pb 24 (op6 k.B) := ⟨F2.a.drew, F2.b.drew⟩
 refine wp_region_held_drew (S := fun V => Blk V pa 24 (op6 k.A) ∧ Blk V pb 24 (op6 k.B)) (by kernel_rfl) k3 (fun hH3 => ?_)
 clear k3
 have d3 := (Below.refl w2.heap.size w2).drew
 have LD3 := L2.below d3
 have hsz3 : w2.heap.size = w2.drew.heap.size := rfl
 generalize w2.drew = D3 at *
 refine tk 0 ?_ ?_ hH3 ?_
 rotate_left
 ·intro W hS
  go_simp
  try rfl
 simp only [pT]
 refine tk 2 (opV k.A) ?_ hH3 ?_
 ·intro W hS
  exact run_load_row (by rfl) (by rfl) 24 _ (0, 0) _ hS.1.h Tryd.underlying24 rfl (szOp k.A)
 simp only [pS]
 refine tk 3 ?_ ?_ hH3 ?_
 rotate_left
 ·intro W hS
  go_simp
  try rfl
 simp only [pT]
 refine tk 5 ?_ ?_ hH3 ?_
 rotate_left
 ·intro W hS
  go_simp
  try rfl
 simp only [pT]
 refine tk 6 ?_ ?_ hH3 ?_
 rotate_left
 ·intro W hS
  have c2 := hS.2.cell (i := 2) (v := .int .u32 k.B.m) rfl
  go_simp
  try rfl
 simp only [pT]
 refine rd 1 (fun K hK => ?_)
 go_simp
 have hA3 := And.intro (hH3.1.alloc (arr1 (129))) (hH3.2.alloc (arr1 (129)))
 refine hK.out _ _ hA3 (fun _ => ?_)
 clear hK K
 try simp only [pT]
 refine rd 4 (fun K hK => ?_)
 go_simp
 with_reducible refine (hM4.out _).mono ?_
 rintro e u3 ⟨p3, vs3, rfl, R3, x3⟩
 have hB3 := And.intro (hH3.1.below x3 hH3.1.lt) (hH3.2.below x3 hH3.2.lt)
 refine hK.out _ _ hB3 (fun _ => ?_)
 clear hK K
 try simp only [pS]
 refine rd 7 (fun K hK => ?_)
 go_simp
 with_reducible refine (behind_four _ _ _ _ k.B.m hB.out _ R3 x3.size (fun y hy => mW_short hX hn y hy) (by have := mW_len [129] k.A (g); omega)).mono ?_
 rintro e t3 ⟨rfl, ⟨us3, S3⟩, y3⟩
 have y3' := (Below.mono y3 (Nat.le_refl _))
 have hC3 := And.intro (hB3.1.below y3 hH3.1.lt) (hB3.2.below y3 hH3.2.lt)
 refine hK.out _ _ hC3 (fun _ => ?_)
 clear hK K
 try simp only [pS]
 refine rd 8 (fun K hK => ?_)
 rw [if_pos (by kernel_rfl)]
 refine append_lsK _ _ rfl W.heap.size _ v2 _ (([] ++ [[8 * g + 5] ++ wB k.B.m]) ++ b1 (mW [131] k.A (g)) k.B.m) _ us3 rfl (LD3.below (x3.trans y3')) (Nat.le_trans z2.size (Nat.le_trans (Nat.le_of_eq hsz3) (Nat.le_trans x3.size y3.size))) rfl S3 (fun k hk => (LD3.lt hk).2) (by simp [b4, mW_ne hX]) (by have := mW_len [129] k.A (g); simp [b1, b4]; omega) (fun v3 w3 L3 g3 => ?_)
 have hE3 := And.intro ((hC3.1).below (g3.mono (Nat.le_refl _)) pa_lt) ((hC3.2).below g3 pb_lt)
 refine hK.out _ _ hE3 (fun _ => ?_)
 clear hK K
 try simp only [pT]
 refine tk 9 ?_ ?_ hE3 ?_
 rotate_left
 ·intro W hS
  go_simp
  try rfl
 simp only [pT]
 refine wpAnyH_done (by kernel_rfl) ?_ _
 have x3' : Below w2.heap.size w2 t3 := ((d3.trans (x3.mono (Nat.le_of_eq hsz3))).trans (y3.mono (Nat.le_of_eq hsz3)))
 replace x3 := x3'
 have z3 : Below W.heap.size W w3 := (z2.trans (x3.mono z2.size)).trans g3
 have F3 := F.below z3
 go_wp2_with fail
 go_ret
 exact ⟨v3, rfl, by simpa using L3.base b0.size, b0.trans (z3.mono b0.size)⟩
theorem w_imm_tf (k : In) (hN0 : NoFix k) (g : Int) (hn : 0 ≤ g ∧ g < 8) (h3 : atN [3, 4, 5, 6, 7, 8, 9, 10] k.op 0 = g) (hk : (k.B.k == 2) = true) (h0 : isR0 k.A = true) (hf : fitI k.B.m = false) (hX : RMb k.A) (hm : 0 ≤ k.B.m ∧ k.B.m ≤ 4294967295) (w : World) : Gives 23 k w (([] ++ [[8 * g + 5] ++ wB k.B.m]) ++ b4 (mW [129] k.A (g)) k.B.m) := by
 have hg0 : ((0 : Int) ≤ g) = True := eq_true hn.1
 have hw8 : IntKind.i64.wrap (8 * g) = 8 * g := by rw [IntKind.wrap_i64]; omega
 have hi5 : IntKind.i64.wrap (8 * g + 5) = 8 * g + 5 := by rw [IntKind.wrap_i64]; omega
 have hu5 : IntKind.u8.wrap (8 * g + 5) = 8 * g + 5 := by rw [IntKind.wrap_u8]; omega
 have hb5 : 0 ≤ 8 * g + 5 ∧ 8 * g + 5 ≤ 255 := by omega
 have hA3 := Lib.hid (fun W B (h : Blk W B 43 #[.int .i64 3, .int .i64 4, .int .i64 5, .int .i64 6, .int .i64 7, .int .i64 8, .int .i64 9, .int .i64 10]) => at_any [3, 4, 5, 6, 7, 8, 9, 10] k.op W B 8 43 rfl (by decide) h)
 rw [h3] at hA3
 have hB := Lib.hid hm
 have hM1 := Lib.hid (fun W => mod_one W (show 0 ≤ (131 : Int) ∧ (131 : Int) ≤ 255 by decide) hX hn)
 have hM4 := Lib.hid (fun W => mod_one W (show 0 ≤ (129 : Int) ∧ (129 : Int) ≤ 255 by decide) hX hn)
 have hG := Lib.hid (fun W => reg_ref 0 W)
 have hP := Lib.hid (fun W => put_one W hb5 hm)
 have hF := Lib.hid (fun W => fits_any k.B.m hm W)
 rw [hf] at hF
 have l131 := mW_len [131] k.A (g)
 have hN := Lib.hid hN0
 clear hN0
 have h8 := Lib.hid groups_ref
 have h9 := Lib.hid shifts_ref
 have h10 := Lib.hid numbers_ref
 go_enter Tryd.func23, Tryd.ntmps23
 go_upto_region 2 with (first | ((with_reducible refine (h8.out _).mono ?_); rintro e w8 ⟨rfl, b8⟩) | ((with_reducible refine (h9.out _).mono ?_); rintro e w9 ⟨rfl, b9⟩) | ((with_reducible refine (h10.out _).mono ?_); rintro e w10 ⟨rfl, b10⟩))
 clear h8 h9 h10
 obtain ⟨K3, K4, K5, ba⟩ := arr3 w10 #[.int .i64 3, .int .i64 4, .int .i64 5, .int .i64 6, .int .i64 7, .int .i64 8, .int .i64 9, .int .i64 10] #[.int .i64 21, .int .i64 22, .int .i64 0, .int .i64 0, .int .i64 23, .int .i64 24, .int .i64 0, .int .i64 25] #[.int .i64 47, .int .i64 48, .int .i64 53, .int .i64 0, .int .i64 49, .int .i64 0, .int .i64 50, .int .i64 0] 43
 have bz : Below w.heap.size w w8 := bel1 (Below.refl _ _) (Nat.le_refl _) b8
 replace bz := bz.trans (b9.mono bz.size)
 replace bz := bz.trans (b10.mono bz.size)
 replace bz := bz.trans (ba.mono bz.size)
 have kI := (Blk.new w 26 (in16 k)).below (((b8.trans (b9.mono b8.size)).trans (b10.mono (Nat.le_trans b8.size b9.size))).trans (ba.mono (Nat.le_trans b8.size (Nat.le_trans b9.size b10.size)))) (Blk.new w 26 (in16 k)).lt
 clear b8 b9 b10 ba
 generalize (((w10.alloc (.cells #[.int .i64 3, .int .i64 4, .int .i64 5, .int .i64 6, .int .i64 7, .int .i64 8, .int .i64 9, .int .i64 10] 43)).alloc (.cells #[.int .i64 21, .int .i64 22, .int .i64 0, .int .i64 0, .int .i64 23, .int .i64 24, .int .i64 0, .int .i64 25] 43)).alloc (.cells #[.int .i64 47, .int .i64 48, .int .i64 53, .int .i64 0, .int .i64 49, .int .i64 0, .int .i64 50, .int .i64 0] 43)) = W1 at *
 generalize w10.heap.size = p at *
 refine open_W rfl (fun _ _ _ _ _ h => h) kI (fun W pa pb F b na nb => ?_)
 replace bz := bz.trans (b.mono bz.size)
 replace K3 := K3.below b K3.lt
 replace K4 := K4.below b K4.lt
 replace K5 := K5.below b K5.lt
 clear b kI na nb
 go_upto_region 4 with (first | (with_reducible refine load_inR rfl _ rfl w.heap.size (in16 k) rfl F.i (in16_size _) ?_) | ((with_reducible refine (hN.out _).mono ?_); rintro e V ⟨rfl, x1⟩))
 have F0 := F.below x1
 have J3 := K3.below x1 K3.lt
 have J4 := K4.below x1 K4.lt
 have J5 := K5.below x1 K5.lt
 have b0 := bz.trans (x1.mono bz.size)
 clear F K3 K4 K5 bz
 clear x1
 generalize V = W at *
 have F := F0
 have K3 := J3
 have K4 := J4
 have K5 := J5
 have bz := b0
 clear F0 J3 J4 J5 b0
 go_upto_region 7 with fail
 have bD := (Below.refl W.heap.size W).drew
 have F0 := F.below bD
 have J3 := K3.below bD K3.lt
 have J4 := K4.below bD K4.lt
 have J5 := K5.below bD K5.lt
 have b0 := bz.trans (bD.mono bz.size)
 clear F K3 K4 K5 bz
 clear bD
 refine wp_region_held_drew (S := fun V => Blk V w.heap.size 26 (in16 k) ∧ Blk V p 43 #[.int .i64 3, .int .i64 4, .int .i64 5, .int .i64 6, .int .i64 7, .int .i64 8, .int .i64 9, .int .i64 10]) (by kernel_rfl) ⟨F0.i, J3⟩ (fun hH => ?_)
 generalize W.drew = W at *
 have F := F0
 have K3 := J3
 have K4 := J4
 have K5 := J5
 have bz := b0
 clear F0 J3 J4 J5 b0
 refine tk 0 ?_ ?_ hH ?_
 rotate_left
 ·intro W hS
  go_simp
  try rfl
 simp only [pT]
 refine tk 1 ?_ ?_ hH ?_
 rotate_left
 ·intro W hS
  go_simp
  try rfl
 simp only [pT]
 refine tk 2 ?_ ?_ hH ?_
 rotate_left
 ·intro W hS
  have c0 := hS.1.cell (i := 0) (v := .int .i64 k.op) rfl
  go_simp
  try rfl
 simp only [pT]
 refine rd 3 (fun K hK => ?_)
 go_simp
 with_reducible refine (hA3.out _ _ hH.2).mono ?_
 rintro e wz ⟨rfl, hwz⟩
 replace hwz := hwz.symm
 subst hwz
 refine hK.out _ _ hH (fun _ => ?_)
 clear hK K
 try simp only [pS]
 refine tk 4 ?_ ?_ hH ?_
 rotate_left
 ·intro W hS
  go_simp
  try rfl
 simp only [pT]
 refine wpAnyH_done (by kernel_rfl) ?_ _
 clear hH
 have cB0 := F.b.cell (i := 0) (v := .int .i64 k.B.k) rfl
 go_upto_region 9 with fail
 clear cB0
 have bD := (Below.refl W.heap.size W).drew
 have F0 := F.below bD
 have J3 := K3.below bD K3.lt
 have J4 := K4.below bD K4.lt
 have J5 := K5.below bD K5.lt
 have b0 := bz.trans (bD.mono bz.size)
 clear F K3 K4 K5 bz
 clear bD
 refine wp_region_held_drew (S := fun V => Blk V pa 24 (op6 k.A)) (by kernel_rfl) F0.a (fun hH => ?_)
 generalize W.drew = W at *
 have F := F0
 have K3 := J3
 have K4 := J4
 have K5 := J5
 have bz := b0
 clear F0 J3 J4 J5 b0
 refine tk 0 (opV k.A) ?_ hH ?_
 ·intro W hS
  exact run_load_row (by rfl) (by rfl) 24 _ (0, 0) _ hS.h Tryd.underlying24 rfl (szOp k.A)
 simp only [pS]
 refine rd 1 (fun K hK => ?_)
 go_simp
 with_reducible refine (hG.out _).mono ?_
 rintro e V ⟨rfl, x1⟩
 have hH1 := hH.below x1 hH.lt
 refine hK.out _ _ hH1 (fun _ => ?_)
 clear hK K
 try simp only [pS]
 refine tk 2 (.bool true) ?_ hH1 ?_
 ·intro W hS
  go_simp
  obtain ⟨q1, q2, q3, q4, q5, q6⟩ := R0_parts h0
  rw [if_pos q1, if_pos q2, if_pos q3, if_pos q4, if_pos q5, if_pos q6]
 simp only [pS]
 refine wpAnyH_done (by kernel_rfl) ?_ _
 clear hH hH1
 have F0 := F.below x1
 have J3 := K3.below x1 K3.lt
 have J4 := K4.below x1 K4.lt
 have J5 := K5.below x1 K5.lt
 have b0 := bz.trans (x1.mono bz.size)
 clear F K3 K4 K5 bz
 clear x1
 generalize V = W at *
 have F := F0
 have K3 := J3
 have K4 := J4
 have K5 := J5
 have bz := b0
 clear F0 J3 J4 J5 b0
 have bW := Below.refl W.heap.size W
 have b0 := bz
 have pa_lt := F.a.lt
 have pb_lt := F.b.lt
 go_upto_region 10 with fail
 have cm1 := (F.b.alloc (arr1 (8 * g + 5))).cell (i := 2) (v := .int .u32 k.B.m) rfl
 go_upto_region 11 with (first | ((with_reducible refine (hP.out _).mono ?_); rintro e u1 ⟨p1, rfl, O1, x1⟩; obtain ⟨a1, q1, e1, -⟩ := id O1.ba; generalize List.length _ = l1 at e1; subst e1; have x1' : Below W.heap.size W u1 := x1) | (at_builtin; refine append_one rfl _ _ rfl W.heap.size (.slice none 0 0) ([]) rfl (LL.nil _ _) (Nat.le_trans bW.size x1.size) O1 (fun k hk => by cases hk) rfl (by simp) ?_; intro v1 w1 L1 g1))
 have z1 : Below W.heap.size W w1 := (bW.trans (x1.mono bW.size)).trans g1
 have F1 := F.below z1
 have cf := F1.b.cell (i := 2) (v := .int .u32 k.B.m) rfl
 go_upto_region 13 with (first | ((with_reducible refine (hF.out _).mono ?_); rintro e wf ⟨rfl, hwf⟩; subst hwf))
 clear cf
 have k2 : Blk w1.drew pa 24 (op6 k.A) ∧ Blk w1.drew pb 24 (op6 k.B) := ⟨F1.a.drew, F1.b.drew⟩
 refine wp_region_held_drew (S := fun V => Blk V pa 24 (op6 k.A) ∧ Blk V pb 24 (op6 k.B)) (by kernel_rfl) k2 (fun hH2 => ?_)
 clear k2
 have d2 := (Below.refl w1.heap.size w1).drew
 have LD2 := L1.below d2
 have hsz2 : w1.heap.size = w1.drew.heap.size := rfl
 generalize w1.drew = D2 at *
 refine tk 0 ?_ ?_ hH2 ?_
 rotate_left
 ·intro W hS
  go_simp
  try rfl
 simp only [pT]
 refine tk 2 (opV k.A) ?_ hH2 ?_
 ·intro W hS
  exact run_load_row (by rfl) (by rfl) 24 _ (0, 0) _ hS.1.h Tryd.underlying24 rfl (szOp k.A)
 simp only [pS]
 refine tk 3 ?_ ?_ hH2 ?_
 rotate_left
 ·intro W hS
  go_simp
  try rfl
 simp only [pT]
 refine tk 5 ?_ ?_ hH2 ?_
 rotate_left
 ·intro W hS
  go_simp
  try rfl
 simp only [pT]
 refine tk 6 ?_ ?_ hH2 ?_
 rotate_left
 ·intro W hS
  have c2 := hS.2.cell (i := 2) (v := .int .u32 k.B.m) rfl
  go_simp
  try rfl
 simp only [pT]
 refine rd 1 (fun K hK => ?_)
 go_simp
 have hA2 := And.intro (hH2.1.alloc (arr1 (129))) (hH2.2.alloc (arr1 (129)))
 refine hK.out _ _ hA2 (fun _ => ?_)
 clear hK K
 try simp only [pT]
 refine rd 4 (fun K hK => ?_)
 go_simp
 with_reducible refine (hM4.out _).mono ?_
 rintro e u2 ⟨p2, vs2, rfl, R2, x2⟩
 have hB2 := And.intro (hH2.1.below x2 hH2.1.lt) (hH2.2.below x2 hH2.2.lt)
 refine hK.out _ _ hB2 (fun _ => ?_)
 clear hK K
 try simp only [pS]
 refine rd 7 (fun K hK => ?_)
 go_simp
 with_reducible refine (behind_four _ _ _ _ k.B.m hB.out _ R2 x2.size (fun y hy => mW_short hX hn y hy) (by have := mW_len [129] k.A (g); omega)).mono ?_
 rintro e t2 ⟨rfl, ⟨us2, S2⟩, y2⟩
 have y2' := (Below.mono y2 (Nat.le_refl _))
 have hC2 := And.intro (hB2.1.below y2 hH2.1.lt) (hB2.2.below y2 hH2.2.lt)
 refine hK.out _ _ hC2 (fun _ => ?_)
 clear hK K
 try simp only [pS]
 refine rd 8 (fun K hK => ?_)
 rw [if_pos (by kernel_rfl)]
 refine append_lsK _ _ rfl W.heap.size _ v1 _ ([] ++ [[8 * g + 5] ++ wB k.B.m]) _ us2 rfl (LD2.below (x2.trans y2')) (Nat.le_trans z1.size (Nat.le_trans (Nat.le_of_eq hsz2) (Nat.le_trans x2.size y2.size))) rfl S2 (fun k hk => (LD2.lt hk).2) (by simp [b4, mW_ne hX]) (by have := mW_len [129] k.A (g); simp [b1, b4]; omega) (fun v2 w2 L2 g2 => ?_)
 have hE2 := And.intro ((hC2.1).below (g2.mono (Nat.le_refl _)) pa_lt) ((hC2.2).below g2 pb_lt)
 refine hK.out _ _ hE2 (fun _ => ?_)
 clear hK K
 try simp only [pT]
 refine tk 9 ?_ ?_ hE2 ?_
 rotate_left
 ·intro W hS
  go_simp
  try rfl
 simp only [pT]
 refine wpAnyH_done (by kernel_rfl) ?_ _
 have x2' : Below w1.heap.size w1 t2 := ((d2.trans (x2.mono (Nat.le_of_eq hsz2))).trans (y2.mono (Nat.le_of_eq hsz2)))
 replace x2 := x2'
 have z2 : Below W.heap.size W w2 := (z1.trans (x2.mono z1.size)).trans g2
 have F2 := F.below z2
 go_wp2_with fail
 go_ret
 exact ⟨v2, rfl, by simpa using L2.base b0.size, b0.trans (z2.mono b0.size)⟩
theorem w_imm_ft (k : In) (hN0 : NoFix k) (g : Int) (hn : 0 ≤ g ∧ g < 8) (h3 : atN [3, 4, 5, 6, 7, 8, 9, 10] k.op 0 = g) (hk : (k.B.k == 2) = true) (h0 : isR0 k.A = false) (hf : fitI k.B.m = true) (hX : RMb k.A) (hm : 0 ≤ k.B.m ∧ k.B.m ≤ 4294967295) (w : World) : Gives 23 k w (([] ++ b1 (mW [131] k.A (g)) k.B.m) ++ b4 (mW [129] k.A (g)) k.B.m) := by
 have hg0 : ((0 : Int) ≤ g) = True := eq_true hn.1
 have hw8 : IntKind.i64.wrap (8 * g) = 8 * g := by rw [IntKind.wrap_i64]; omega
 have hi5 : IntKind.i64.wrap (8 * g + 5) = 8 * g + 5 := by rw [IntKind.wrap_i64]; omega
 have hu5 : IntKind.u8.wrap (8 * g + 5) = 8 * g + 5 := by rw [IntKind.wrap_u8]; omega
 have hb5 : 0 ≤ 8 * g + 5 ∧ 8 * g + 5 ≤ 255 := by omega
 have hA3 := Lib.hid (fun W B (h : Blk W B 43 #[.int .i64 3, .int .i64 4, .int .i64 5, .int .i64 6, .int .i64 7, .int .i64 8, .int .i64 9, .int .i64 10]) => at_any [3, 4, 5, 6, 7, 8, 9, 10] k.op W B 8 43 rfl (by decide) h)
 rw [h3] at hA3
 have hB := Lib.hid hm
 have hM1 := Lib.hid (fun W => mod_one W (show 0 ≤ (131 : Int) ∧ (131 : Int) ≤ 255 by decide) hX hn)
 have hM4 := Lib.hid (fun W => mod_one W (show 0 ≤ (129 : Int) ∧ (129 : Int) ≤ 255 by decide) hX hn)
 have hG := Lib.hid (fun W => reg_ref 0 W)
 have hP := Lib.hid (fun W => put_one W hb5 hm)
 have hF := Lib.hid (fun W => fits_any k.B.m hm W)
 rw [hf] at hF
 have l131 := mW_len [131] k.A (g)
 have hN := Lib.hid hN0
 clear hN0
 have h8 := Lib.hid groups_ref
 have h9 := Lib.hid shifts_ref
 have h10 := Lib.hid numbers_ref
 go_enter Tryd.func23, Tryd.ntmps23
 go_upto_region 2 with (first | ((with_reducible refine (h8.out _).mono ?_); rintro e w8 ⟨rfl, b8⟩) | ((with_reducible refine (h9.out _).mono ?_); rintro e w9 ⟨rfl, b9⟩) | ((with_reducible refine (h10.out _).mono ?_); rintro e w10 ⟨rfl, b10⟩))
 clear h8 h9 h10
 obtain ⟨K3, K4, K5, ba⟩ := arr3 w10 #[.int .i64 3, .int .i64 4, .int .i64 5, .int .i64 6, .int .i64 7, .int .i64 8, .int .i64 9, .int .i64 10] #[.int .i64 21, .int .i64 22, .int .i64 0, .int .i64 0, .int .i64 23, .int .i64 24, .int .i64 0, .int .i64 25] #[.int .i64 47, .int .i64 48, .int .i64 53, .int .i64 0, .int .i64 49, .int .i64 0, .int .i64 50, .int .i64 0] 43
 have bz : Below w.heap.size w w8 := bel1 (Below.refl _ _) (Nat.le_refl _) b8
 replace bz := bz.trans (b9.mono bz.size)
 replace bz := bz.trans (b10.mono bz.size)
 replace bz := bz.trans (ba.mono bz.size)
 have kI := (Blk.new w 26 (in16 k)).below (((b8.trans (b9.mono b8.size)).trans (b10.mono (Nat.le_trans b8.size b9.size))).trans (ba.mono (Nat.le_trans b8.size (Nat.le_trans b9.size b10.size)))) (Blk.new w 26 (in16 k)).lt
 clear b8 b9 b10 ba
 generalize (((w10.alloc (.cells #[.int .i64 3, .int .i64 4, .int .i64 5, .int .i64 6, .int .i64 7, .int .i64 8, .int .i64 9, .int .i64 10] 43)).alloc (.cells #[.int .i64 21, .int .i64 22, .int .i64 0, .int .i64 0, .int .i64 23, .int .i64 24, .int .i64 0, .int .i64 25] 43)).alloc (.cells #[.int .i64 47, .int .i64 48, .int .i64 53, .int .i64 0, .int .i64 49, .int .i64 0, .int .i64 50, .int .i64 0] 43)) = W1 at *
 generalize w10.heap.size = p at *
 refine open_W rfl (fun _ _ _ _ _ h => h) kI (fun W pa pb F b na nb => ?_)
 replace bz := bz.trans (b.mono bz.size)
 replace K3 := K3.below b K3.lt
 replace K4 := K4.below b K4.lt
 replace K5 := K5.below b K5.lt
 clear b kI na nb
 go_upto_region 4 with (first | (with_reducible refine load_inR rfl _ rfl w.heap.size (in16 k) rfl F.i (in16_size _) ?_) | ((with_reducible refine (hN.out _).mono ?_); rintro e V ⟨rfl, x1⟩))
 have F0 := F.below x1
 have J3 := K3.below x1 K3.lt
 have J4 := K4.below x1 K4.lt
 have J5 := K5.below x1 K5.lt
 have b0 := bz.trans (x1.mono bz.size)
 clear F K3 K4 K5 bz
 clear x1
 generalize V = W at *
 have F := F0
 have K3 := J3
 have K4 := J4
 have K5 := J5
 have bz := b0
 clear F0 J3 J4 J5 b0
 go_upto_region 7 with fail
 have bD := (Below.refl W.heap.size W).drew
 have F0 := F.below bD
 have J3 := K3.below bD K3.lt
 have J4 := K4.below bD K4.lt
 have J5 := K5.below bD K5.lt
 have b0 := bz.trans (bD.mono bz.size)
 clear F K3 K4 K5 bz
 clear bD
 refine wp_region_held_drew (S := fun V => Blk V w.heap.size 26 (in16 k) ∧ Blk V p 43 #[.int .i64 3, .int .i64 4, .int .i64 5, .int .i64 6, .int .i64 7, .int .i64 8, .int .i64 9, .int .i64 10]) (by kernel_rfl) ⟨F0.i, J3⟩ (fun hH => ?_)
 generalize W.drew = W at *
 have F := F0
 have K3 := J3
 have K4 := J4
 have K5 := J5
 have bz := b0
 clear F0 J3 J4 J5 b0
 refine tk 0 ?_ ?_ hH ?_
 rotate_left
 ·intro W hS
  go_simp
  try rfl
 simp only [pT]
 refine tk 1 ?_ ?_ hH ?_
 rotate_left
 ·intro W hS
  go_simp
  try rfl
 simp only [pT]
 refine tk 2 ?_ ?_ hH ?_
 rotate_left
 ·intro W hS
  have c0 := hS.1.cell (i := 0) (v := .int .i64 k.op) rfl
  go_simp
  try rfl
 simp only [pT]
 refine rd 3 (fun K hK => ?_)
 go_simp
 with_reducible refine (hA3.out _ _ hH.2).mono ?_
 rintro e wz ⟨rfl, hwz⟩
 replace hwz := hwz.symm
 subst hwz
 refine hK.out _ _ hH (fun _ => ?_)
 clear hK K
 try simp only [pS]
 refine tk 4 ?_ ?_ hH ?_
 rotate_left
 ·intro W hS
  go_simp
  try rfl
 simp only [pT]
 refine wpAnyH_done (by kernel_rfl) ?_ _
 clear hH
 have cB0 := F.b.cell (i := 0) (v := .int .i64 k.B.k) rfl
 go_upto_region 9 with fail
 clear cB0
 have bD := (Below.refl W.heap.size W).drew
 have F0 := F.below bD
 have J3 := K3.below bD K3.lt
 have J4 := K4.below bD K4.lt
 have J5 := K5.below bD K5.lt
 have b0 := bz.trans (bD.mono bz.size)
 clear F K3 K4 K5 bz
 clear bD
 refine wp_region_held_drew (S := fun V => Blk V pa 24 (op6 k.A)) (by kernel_rfl) F0.a (fun hH => ?_)
 generalize W.drew = W at *
 have F := F0
 have K3 := J3
 have K4 := J4
 have K5 := J5
 have bz := b0
 clear F0 J3 J4 J5 b0
 refine tk 0 (opV k.A) ?_ hH ?_
 ·intro W hS
  exact run_load_row (by rfl) (by rfl) 24 _ (0, 0) _ hS.h Tryd.underlying24 rfl (szOp k.A)
 simp only [pS]
 refine rd 1 (fun K hK => ?_)
 go_simp
 with_reducible refine (hG.out _).mono ?_
 rintro e V ⟨rfl, x1⟩
 have hH1 := hH.below x1 hH.lt
 refine hK.out _ _ hH1 (fun _ => ?_)
 clear hK K
 try simp only [pS]
 refine tk 2 (.bool false) ?_ hH1 ?_
 ·intro W hS
  go_simp
  exact R0_not h0
 simp only [pS]
 refine wpAnyH_done (by kernel_rfl) ?_ _
 clear hH hH1
 have F0 := F.below x1
 have J3 := K3.below x1 K3.lt
 have J4 := K4.below x1 K4.lt
 have J5 := K5.below x1 K5.lt
 have b0 := bz.trans (x1.mono bz.size)
 clear F K3 K4 K5 bz
 clear x1
 generalize V = W at *
 have F := F0
 have K3 := J3
 have K4 := J4
 have K5 := J5
 have bz := b0
 clear F0 J3 J4 J5 b0
 have bW := Below.refl W.heap.size W
 have b0 := bz
 have pa_lt := F.a.lt
 have pb_lt := F.b.lt
 go_upto_region 11 with fail
 have cf := F.b.cell (i := 2) (v := .int .u32 k.B.m) rfl
 go_upto_region 12 with (first | ((with_reducible refine (hF.out _).mono ?_); rintro e wf ⟨rfl, hwf⟩; subst hwf))
 clear cf
 have k1 : Blk W.drew pa 24 (op6 k.A) ∧ Blk W.drew pb 24 (op6 k.B) := ⟨F.a.drew, F.b.drew⟩
 refine wp_region_held_drew (S := fun V => Blk V pa 24 (op6 k.A) ∧ Blk V pb 24 (op6 k.B)) (by kernel_rfl) k1 (fun hH1 => ?_)
 clear k1
 have d1 := (Below.refl W.heap.size W).drew
 have hsz1 : W.heap.size = W.drew.heap.size := rfl
 generalize W.drew = D1 at *
 refine tk 0 ?_ ?_ hH1 ?_
 rotate_left
 ·intro W hS
  go_simp
  try rfl
 simp only [pT]
 refine tk 2 (opV k.A) ?_ hH1 ?_
 ·intro W hS
  exact run_load_row (by rfl) (by rfl) 24 _ (0, 0) _ hS.1.h Tryd.underlying24 rfl (szOp k.A)
 simp only [pS]
 refine tk 3 ?_ ?_ hH1 ?_
 rotate_left
 ·intro W hS
  go_simp
  try rfl
 simp only [pT]
 refine tk 5 ?_ ?_ hH1 ?_
 rotate_left
 ·intro W hS
  go_simp
  try rfl
 simp only [pT]
 refine tk 6 ?_ ?_ hH1 ?_
 rotate_left
 ·intro W hS
  have c2 := hS.2.cell (i := 2) (v := .int .u32 k.B.m) rfl
  go_simp
  try rfl
 simp only [pT]
 refine rd 1 (fun K hK => ?_)
 go_simp
 have hA1 := And.intro (hH1.1.alloc (arr1 (131))) (hH1.2.alloc (arr1 (131)))
 refine hK.out _ _ hA1 (fun _ => ?_)
 clear hK K
 try simp only [pT]
 refine rd 4 (fun K hK => ?_)
 go_simp
 with_reducible refine (hM1.out _).mono ?_
 rintro e u1 ⟨p1, vs1, rfl, R1, x1⟩
 have hB1 := And.intro (hH1.1.below x1 hH1.1.lt) (hH1.2.below x1 hH1.2.lt)
 refine hK.out _ _ hB1 (fun _ => ?_)
 clear hK K
 try simp only [pS]
 refine rd 7 (fun K hK => ?_)
 go_simp
 with_reducible refine (behind_one _ _ _ _ k.B.m hB.out _ R1 x1.size (fun y hy => mW_short hX hn y hy) (by have := mW_len [131] k.A (g); omega)).mono ?_
 rintro e t1 ⟨rfl, ⟨us1, S1⟩, y1⟩
 have y1' := (Below.mono y1 (Nat.le_refl _))
 have hC1 := And.intro (hB1.1.below y1 hH1.1.lt) (hB1.2.below y1 hH1.2.lt)
 refine hK.out _ _ hC1 (fun _ => ?_)
 clear hK K
 try simp only [pS]
 refine rd 8 (fun K hK => ?_)
 rw [if_pos (by kernel_rfl)]
 refine append_lsK _ _ rfl W.heap.size _ (.slice none 0 0) _ ([]) _ us1 rfl (LL.nil _ _) (Nat.le_trans bW.size (Nat.le_trans (Nat.le_of_eq hsz1) (Nat.le_trans x1.size y1.size))) rfl S1 (fun k hk => by cases hk) (by simp [b1, mW_ne hX]) (by have := mW_len [131] k.A (g); simp [b1, b4]; omega) (fun v1 w1 L1 g1 => ?_)
 have hE1 := And.intro ((hC1.1).below (g1.mono (Nat.le_refl _)) pa_lt) ((hC1.2).below g1 pb_lt)
 refine hK.out _ _ hE1 (fun _ => ?_)
 clear hK K
 try simp only [pT]
 refine tk 9 ?_ ?_ hE1 ?_
 rotate_left
 ·intro W hS
  go_simp
  try rfl
 simp only [pT]
 refine wpAnyH_done (by kernel_rfl) ?_ _
 have x1' : Below W.heap.size W t1 := ((d1.trans (x1.mono (Nat.le_of_eq hsz1))).trans (y1.mono (Nat.le_of_eq hsz1)))
 replace x1 := x1'
 go_upto_region 13 with fail
 have z1 : Below W.heap.size W w1 := (bW.trans (x1.mono bW.size)).trans g1
 have F1 := F.below z1
 have k2 : Blk w1.drew pa 24 (op6 k.A) ∧ Blk w1.drew pb 24 (op6 k.B) := ⟨F1.a.drew, F1.b.drew⟩
 refine wp_region_held_drew (S := fun V => Blk V pa 24 (op6 k.A) ∧ Blk V pb 24 (op6 k.B)) (by kernel_rfl) k2 (fun hH2 => ?_)
 clear k2
 have d2 := (Below.refl w1.heap.size w1).drew
 have LD2 := L1.below d2
 have hsz2 : w1.heap.size = w1.drew.heap.size := rfl
 generalize w1.drew = D2 at *
 refine tk 0 ?_ ?_ hH2 ?_
 rotate_left
 ·intro W hS
  go_simp
  try rfl
 simp only [pT]
 refine tk 2 (opV k.A) ?_ hH2 ?_
 ·intro W hS
  exact run_load_row (by rfl) (by rfl) 24 _ (0, 0) _ hS.1.h Tryd.underlying24 rfl (szOp k.A)
 simp only [pS]
 refine tk 3 ?_ ?_ hH2 ?_
 rotate_left
 ·intro W hS
  go_simp
  try rfl
 simp only [pT]
 refine tk 5 ?_ ?_ hH2 ?_
 rotate_left
 ·intro W hS
  go_simp
  try rfl
 simp only [pT]
 refine tk 6 ?_ ?_ hH2 ?_
 rotate_left
 ·intro W hS
  have c2 := hS.2.cell (i := 2) (v := .int .u32 k.B.m) rfl
  go_simp
  try rfl
 simp only [pT]
 refine rd 1 (fun K hK => ?_)
 go_simp
 have hA2 := And.intro (hH2.1.alloc (arr1 (129))) (hH2.2.alloc (arr1 (129)))
 refine hK.out _ _ hA2 (fun _ => ?_)
 clear hK K
 try simp only [pT]
 refine rd 4 (fun K hK => ?_)
 go_simp
 with_reducible refine (hM4.out _).mono ?_
 rintro e u2 ⟨p2, vs2, rfl, R2, x2⟩
 have hB2 := And.intro (hH2.1.below x2 hH2.1.lt) (hH2.2.below x2 hH2.2.lt)
 refine hK.out _ _ hB2 (fun _ => ?_)
 clear hK K
 try simp only [pS]
 refine rd 7 (fun K hK => ?_)
 go_simp
 with_reducible refine (behind_four _ _ _ _ k.B.m hB.out _ R2 x2.size (fun y hy => mW_short hX hn y hy) (by have := mW_len [129] k.A (g); omega)).mono ?_
 rintro e t2 ⟨rfl, ⟨us2, S2⟩, y2⟩
 have y2' := (Below.mono y2 (Nat.le_refl _))
 have hC2 := And.intro (hB2.1.below y2 hH2.1.lt) (hB2.2.below y2 hH2.2.lt)
 refine hK.out _ _ hC2 (fun _ => ?_)
 clear hK K
 try simp only [pS]
 refine rd 8 (fun K hK => ?_)
 rw [if_pos (by kernel_rfl)]
 refine append_lsK _ _ rfl W.heap.size _ v1 _ ([] ++ b1 (mW [131] k.A (g)) k.B.m) _ us2 rfl (LD2.below (x2.trans y2')) (Nat.le_trans z1.size (Nat.le_trans (Nat.le_of_eq hsz2) (Nat.le_trans x2.size y2.size))) rfl S2 (fun k hk => (LD2.lt hk).2) (by simp [b4, mW_ne hX]) (by have := mW_len [129] k.A (g); simp [b1, b4]; omega) (fun v2 w2 L2 g2 => ?_)
 have hE2 := And.intro ((hC2.1).below (g2.mono (Nat.le_refl _)) pa_lt) ((hC2.2).below g2 pb_lt)
 refine hK.out _ _ hE2 (fun _ => ?_)
 clear hK K
 try simp only [pT]
 refine tk 9 ?_ ?_ hE2 ?_
 rotate_left
 ·intro W hS
  go_simp
  try rfl
 simp only [pT]
 refine wpAnyH_done (by kernel_rfl) ?_ _
 have x2' : Below w1.heap.size w1 t2 := ((d2.trans (x2.mono (Nat.le_of_eq hsz2))).trans (y2.mono (Nat.le_of_eq hsz2)))
 replace x2 := x2'
 have z2 : Below W.heap.size W w2 := (z1.trans (x2.mono z1.size)).trans g2
 have F2 := F.below z2
 go_wp2_with fail
 go_ret
 exact ⟨v2, rfl, by simpa using L2.base b0.size, b0.trans (z2.mono b0.size)⟩
theorem w_imm_ff (k : In) (hN0 : NoFix k) (g : Int) (hn : 0 ≤ g ∧ g < 8) (h3 : atN [3, 4, 5, 6, 7, 8, 9, 10] k.op 0 = g) (hk : (k.B.k == 2) = true) (h0 : isR0 k.A = false) (hf : fitI k.B.m = false) (hX : RMb k.A) (hm : 0 ≤ k.B.m ∧ k.B.m ≤ 4294967295) (w : World) : Gives 23 k w (([]) ++ b4 (mW [129] k.A (g)) k.B.m) := by
 have hg0 : ((0 : Int) ≤ g) = True := eq_true hn.1
 have hw8 : IntKind.i64.wrap (8 * g) = 8 * g := by rw [IntKind.wrap_i64]; omega
 have hi5 : IntKind.i64.wrap (8 * g + 5) = 8 * g + 5 := by rw [IntKind.wrap_i64]; omega
 have hu5 : IntKind.u8.wrap (8 * g + 5) = 8 * g + 5 := by rw [IntKind.wrap_u8]; omega
 have hb5 : 0 ≤ 8 * g + 5 ∧ 8 * g + 5 ≤ 255 := by omega
 have hA3 := Lib.hid (fun W B (h : Blk W B 43 #[.int .i64 3, .int .i64 4, .int .i64 5, .int .i64 6, .int .i64 7, .int .i64 8, .int .i64 9, .int .i64 10]) => at_any [3, 4, 5, 6, 7, 8, 9, 10] k.op W B 8 43 rfl (by decide) h)
 rw [h3] at hA3
 have hB := Lib.hid hm
 have hM1 := Lib.hid (fun W => mod_one W (show 0 ≤ (131 : Int) ∧ (131 : Int) ≤ 255 by decide) hX hn)
 have hM4 := Lib.hid (fun W => mod_one W (show 0 ≤ (129 : Int) ∧ (129 : Int) ≤ 255 by decide) hX hn)
 have hG := Lib.hid (fun W => reg_ref 0 W)
 have hP := Lib.hid (fun W => put_one W hb5 hm)
 have hF := Lib.hid (fun W => fits_any k.B.m hm W)
 rw [hf] at hF
 have l131 := mW_len [131] k.A (g)
 have hN := Lib.hid hN0
 clear hN0
 have h8 := Lib.hid groups_ref
 have h9 := Lib.hid shifts_ref
 have h10 := Lib.hid numbers_ref
 go_enter Tryd.func23, Tryd.ntmps23
 go_upto_region 2 with (first | ((with_reducible refine (h8.out _).mono ?_); rintro e w8 ⟨rfl, b8⟩) | ((with_reducible refine (h9.out _).mono ?_); rintro e w9 ⟨rfl, b9⟩) | ((with_reducible refine (h10.out _).mono ?_); rintro e w10 ⟨rfl, b10⟩))
 clear h8 h9 h10
 obtain ⟨K3, K4, K5, ba⟩ := arr3 w10 #[.int .i64 3, .int .i64 4, .int .i64 5, .int .i64 6, .int .i64 7, .int .i64 8, .int .i64 9, .int .i64 10] #[.int .i64 21, .int .i64 22, .int .i64 0, .int .i64 0, .int .i64 23, .int .i64 24, .int .i64 0, .int .i64 25] #[.int .i64 47, .int .i64 48, .int .i64 53, .int .i64 0, .int .i64 49, .int .i64 0, .int .i64 50, .int .i64 0] 43
 have bz : Below w.heap.size w w8 := bel1 (Below.refl _ _) (Nat.le_refl _) b8
 replace bz := bz.trans (b9.mono bz.size)
 replace bz := bz.trans (b10.mono bz.size)
 replace bz := bz.trans (ba.mono bz.size)
 have kI := (Blk.new w 26 (in16 k)).below (((b8.trans (b9.mono b8.size)).trans (b10.mono (Nat.le_trans b8.size b9.size))).trans (ba.mono (Nat.le_trans b8.size (Nat.le_trans b9.size b10.size)))) (Blk.new w 26 (in16 k)).lt
 clear b8 b9 b10 ba
 generalize (((w10.alloc (.cells #[.int .i64 3, .int .i64 4, .int .i64 5, .int .i64 6, .int .i64 7, .int .i64 8, .int .i64 9, .int .i64 10] 43)).alloc (.cells #[.int .i64 21, .int .i64 22, .int .i64 0, .int .i64 0, .int .i64 23, .int .i64 24, .int .i64 0, .int .i64 25] 43)).alloc (.cells #[.int .i64 47, .int .i64 48, .int .i64 53, .int .i64 0, .int .i64 49, .int .i64 0, .int .i64 50, .int .i64 0] 43)) = W1 at *
 generalize w10.heap.size = p at *
 refine open_W rfl (fun _ _ _ _ _ h => h) kI (fun W pa pb F b na nb => ?_)
 replace bz := bz.trans (b.mono bz.size)
 replace K3 := K3.below b K3.lt
 replace K4 := K4.below b K4.lt
 replace K5 := K5.below b K5.lt
 clear b kI na nb
 go_upto_region 4 with (first | (with_reducible refine load_inR rfl _ rfl w.heap.size (in16 k) rfl F.i (in16_size _) ?_) | ((with_reducible refine (hN.out _).mono ?_); rintro e V ⟨rfl, x1⟩))
 have F0 := F.below x1
 have J3 := K3.below x1 K3.lt
 have J4 := K4.below x1 K4.lt
 have J5 := K5.below x1 K5.lt
 have b0 := bz.trans (x1.mono bz.size)
 clear F K3 K4 K5 bz
 clear x1
 generalize V = W at *
 have F := F0
 have K3 := J3
 have K4 := J4
 have K5 := J5
 have bz := b0
 clear F0 J3 J4 J5 b0
 go_upto_region 7 with fail
 have bD := (Below.refl W.heap.size W).drew
 have F0 := F.below bD
 have J3 := K3.below bD K3.lt
 have J4 := K4.below bD K4.lt
 have J5 := K5.below bD K5.lt
 have b0 := bz.trans (bD.mono bz.size)
 clear F K3 K4 K5 bz
 clear bD
 refine wp_region_held_drew (S := fun V => Blk V w.heap.size 26 (in16 k) ∧ Blk V p 43 #[.int .i64 3, .int .i64 4, .int .i64 5, .int .i64 6, .int .i64 7, .int .i64 8, .int .i64 9, .int .i64 10]) (by kernel_rfl) ⟨F0.i, J3⟩ (fun hH => ?_)
 generalize W.drew = W at *
 have F := F0
 have K3 := J3
 have K4 := J4
 have K5 := J5
 have bz := b0
 clear F0 J3 J4 J5 b0
 refine tk 0 ?_ ?_ hH ?_
 rotate_left
 ·intro W hS
  go_simp
  try rfl
 simp only [pT]
 refine tk 1 ?_ ?_ hH ?_
 rotate_left
 ·intro W hS
  go_simp
  try rfl
 simp only [pT]
 refine tk 2 ?_ ?_ hH ?_
 rotate_left
 ·intro W hS
  have c0 := hS.1.cell (i := 0) (v := .int .i64 k.op) rfl
  go_simp
  try rfl
 simp only [pT]
 refine rd 3 (fun K hK => ?_)
 go_simp
 with_reducible refine (hA3.out _ _ hH.2).mono ?_
 rintro e wz ⟨rfl, hwz⟩
 replace hwz := hwz.symm
 subst hwz
 refine hK.out _ _ hH (fun _ => ?_)
 clear hK K
 try simp only [pS]
 refine tk 4 ?_ ?_ hH ?_
 rotate_left
 ·intro W hS
  go_simp
  try rfl
 simp only [pT]
 refine wpAnyH_done (by kernel_rfl) ?_ _
 clear hH
 have cB0 := F.b.cell (i := 0) (v := .int .i64 k.B.k) rfl
 go_upto_region 9 with fail
 clear cB0
 have bD := (Below.refl W.heap.size W).drew
 have F0 := F.below bD
 have J3 := K3.below bD K3.lt
 have J4 := K4.below bD K4.lt
 have J5 := K5.below bD K5.lt
 have b0 := bz.trans (bD.mono bz.size)
 clear F K3 K4 K5 bz
 clear bD
 refine wp_region_held_drew (S := fun V => Blk V pa 24 (op6 k.A)) (by kernel_rfl) F0.a (fun hH => ?_)
 generalize W.drew = W at *
 have F := F0
 have K3 := J3
 have K4 := J4
 have K5 := J5
 have bz := b0
 clear F0 J3 J4 J5 b0
 refine tk 0 (opV k.A) ?_ hH ?_
 ·intro W hS
  exact run_load_row (by rfl) (by rfl) 24 _ (0, 0) _ hS.h Tryd.underlying24 rfl (szOp k.A)
 simp only [pS]
 refine rd 1 (fun K hK => ?_)
 go_simp
 with_reducible refine (hG.out _).mono ?_
 rintro e V ⟨rfl, x1⟩
 have hH1 := hH.below x1 hH.lt
 refine hK.out _ _ hH1 (fun _ => ?_)
 clear hK K
 try simp only [pS]
 refine tk 2 (.bool false) ?_ hH1 ?_
 ·intro W hS
  go_simp
  exact R0_not h0
 simp only [pS]
 refine wpAnyH_done (by kernel_rfl) ?_ _
 clear hH hH1
 have F0 := F.below x1
 have J3 := K3.below x1 K3.lt
 have J4 := K4.below x1 K4.lt
 have J5 := K5.below x1 K5.lt
 have b0 := bz.trans (x1.mono bz.size)
 clear F K3 K4 K5 bz
 clear x1
 generalize V = W at *
 have F := F0
 have K3 := J3
 have K4 := J4
 have K5 := J5
 have bz := b0
 clear F0 J3 J4 J5 b0
 have bW := Below.refl W.heap.size W
 have b0 := bz
 have pa_lt := F.a.lt
 have pb_lt := F.b.lt
 go_upto_region 11 with fail
 have cf := F.b.cell (i := 2) (v := .int .u32 k.B.m) rfl
 go_upto_region 13 with (first | ((with_reducible refine (hF.out _).mono ?_); rintro e wf ⟨rfl, hwf⟩; subst hwf))
 clear cf
 have k1 : Blk W.drew pa 24 (op6 k.A) ∧ Blk W.drew pb 24 (op6 k.B) := ⟨F.a.drew, F.b.drew⟩
 refine wp_region_held_drew (S := fun V => Blk V pa 24 (op6 k.A) ∧ Blk V pb 24 (op6 k.B)) (by kernel_rfl) k1 (fun hH1 => ?_)
 clear k1
 have d1 := (Below.refl W.heap.size W).drew
 have hsz1 : W.heap.size = W.drew.heap.size := rfl
 generalize W.drew = D1 at *
 refine tk 0 ?_ ?_ hH1 ?_
 rotate_left
 ·intro W hS
  go_simp
  try rfl
 simp only [pT]
 refine tk 2 (opV k.A) ?_ hH1 ?_
 ·intro W hS
  exact run_load_row (by rfl) (by rfl) 24 _ (0, 0) _ hS.1.h Tryd.underlying24 rfl (szOp k.A)
 simp only [pS]
 refine tk 3 ?_ ?_ hH1 ?_
 rotate_left
 ·intro W hS
  go_simp
  try rfl
 simp only [pT]
 refine tk 5 ?_ ?_ hH1 ?_
 rotate_left
 ·intro W hS
  go_simp
  try rfl
 simp only [pT]
 refine tk 6 ?_ ?_ hH1 ?_
 rotate_left
 ·intro W hS
  have c2 := hS.2.cell (i := 2) (v := .int .u32 k.B.m) rfl
  go_simp
  try rfl
 simp only [pT]
 refine rd 1 (fun K hK => ?_)
 go_simp
 have hA1 := And.intro (hH1.1.alloc (arr1 (129))) (hH1.2.alloc (arr1 (129)))
 refine hK.out _ _ hA1 (fun _ => ?_)
 clear hK K
 try simp only [pT]
 refine rd 4 (fun K hK => ?_)
 go_simp
 with_reducible refine (hM4.out _).mono ?_
 rintro e u1 ⟨p1, vs1, rfl, R1, x1⟩
 have hB1 := And.intro (hH1.1.below x1 hH1.1.lt) (hH1.2.below x1 hH1.2.lt)
 refine hK.out _ _ hB1 (fun _ => ?_)
 clear hK K
 try simp only [pS]
 refine rd 7 (fun K hK => ?_)
 go_simp
 with_reducible refine (behind_four _ _ _ _ k.B.m hB.out _ R1 x1.size (fun y hy => mW_short hX hn y hy) (by have := mW_len [129] k.A (g); omega)).mono ?_
 rintro e t1 ⟨rfl, ⟨us1, S1⟩, y1⟩
 have y1' := (Below.mono y1 (Nat.le_refl _))
 have hC1 := And.intro (hB1.1.below y1 hH1.1.lt) (hB1.2.below y1 hH1.2.lt)
 refine hK.out _ _ hC1 (fun _ => ?_)
 clear hK K
 try simp only [pS]
 refine rd 8 (fun K hK => ?_)
 rw [if_pos (by kernel_rfl)]
 refine append_lsK _ _ rfl W.heap.size _ (.slice none 0 0) _ ([]) _ us1 rfl (LL.nil _ _) (Nat.le_trans bW.size (Nat.le_trans (Nat.le_of_eq hsz1) (Nat.le_trans x1.size y1.size))) rfl S1 (fun k hk => by cases hk) (by simp [b4, mW_ne hX]) (by have := mW_len [129] k.A (g); simp [b1, b4]; omega) (fun v1 w1 L1 g1 => ?_)
 have hE1 := And.intro ((hC1.1).below (g1.mono (Nat.le_refl _)) pa_lt) ((hC1.2).below g1 pb_lt)
 refine hK.out _ _ hE1 (fun _ => ?_)
 clear hK K
 try simp only [pT]
 refine tk 9 ?_ ?_ hE1 ?_
 rotate_left
 ·intro W hS
  go_simp
  try rfl
 simp only [pT]
 refine wpAnyH_done (by kernel_rfl) ?_ _
 have x1' : Below W.heap.size W t1 := ((d1.trans (x1.mono (Nat.le_of_eq hsz1))).trans (y1.mono (Nat.le_of_eq hsz1)))
 replace x1 := x1'
 have z1 : Below W.heap.size W w1 := (bW.trans (x1.mono bW.size)).trans g1
 have F1 := F.below z1
 go_wp2_with fail
 go_ret
 exact ⟨v1, rfl, by simpa using L1.base b0.size, b0.trans (z1.mono b0.size)⟩
theorem w_shr (k : In) (hN0 : NoFix k) (g : Int) (hn : 0 ≤ g ∧ g < 8) (h3 : atN [3, 4, 5, 6, 7, 8, 9, 10] k.op 0 = -1) (h4 : atN [21, 22, 0, 0, 23, 24, 0, 25] k.op 0 = g) (hk : (k.B.k == 1) = true) (hX : RMb k.A) (w : World) : Gives 23 k w (mW [211] k.A g) := by
 have hg0 : ((0 : Int) ≤ g) = True := eq_true hn.1
 have hw8 : IntKind.i64.wrap (8 * g) = 8 * g := by rw [IntKind.wrap_i64]; omega
 have hA3 := Lib.hid (fun W B (h : Blk W B 43 #[.int .i64 3, .int .i64 4, .int .i64 5, .int .i64 6, .int .i64 7, .int .i64 8, .int .i64 9, .int .i64 10]) => at_any [3, 4, 5, 6, 7, 8, 9, 10] k.op W B 8 43 rfl (by decide) h)
 rw [h3] at hA3
 have hA4 := Lib.hid (fun W B (h : Blk W B 43 #[.int .i64 21, .int .i64 22, .int .i64 0, .int .i64 0, .int .i64 23, .int .i64 24, .int .i64 0, .int .i64 25]) => at_any [21, 22, 0, 0, 23, 24, 0, 25] k.op W B 8 43 rfl (by decide) h)
 rw [h4] at hA4
 have hM := Lib.hid (fun W => mod_one W (show 0 ≤ (211 : Int) ∧ (211 : Int) ≤ 255 by decide) hX hn)
 clear h3 h4 hn
 have hN := Lib.hid hN0
 clear hN0
 have h8 := Lib.hid groups_ref
 have h9 := Lib.hid shifts_ref
 have h10 := Lib.hid numbers_ref
 go_enter Tryd.func23, Tryd.ntmps23
 go_upto_region 2 with (first | ((with_reducible refine (h8.out _).mono ?_); rintro e w8 ⟨rfl, b8⟩) | ((with_reducible refine (h9.out _).mono ?_); rintro e w9 ⟨rfl, b9⟩) | ((with_reducible refine (h10.out _).mono ?_); rintro e w10 ⟨rfl, b10⟩))
 clear h8 h9 h10
 obtain ⟨K3, K4, K5, ba⟩ := arr3 w10 #[.int .i64 3, .int .i64 4, .int .i64 5, .int .i64 6, .int .i64 7, .int .i64 8, .int .i64 9, .int .i64 10] #[.int .i64 21, .int .i64 22, .int .i64 0, .int .i64 0, .int .i64 23, .int .i64 24, .int .i64 0, .int .i64 25] #[.int .i64 47, .int .i64 48, .int .i64 53, .int .i64 0, .int .i64 49, .int .i64 0, .int .i64 50, .int .i64 0] 43
 have bz : Below w.heap.size w w8 := bel1 (Below.refl _ _) (Nat.le_refl _) b8
 replace bz := bz.trans (b9.mono bz.size)
 replace bz := bz.trans (b10.mono bz.size)
 replace bz := bz.trans (ba.mono bz.size)
 have kI := (Blk.new w 26 (in16 k)).below (((b8.trans (b9.mono b8.size)).trans (b10.mono (Nat.le_trans b8.size b9.size))).trans (ba.mono (Nat.le_trans b8.size (Nat.le_trans b9.size b10.size)))) (Blk.new w 26 (in16 k)).lt
 clear b8 b9 b10 ba
 generalize (((w10.alloc (.cells #[.int .i64 3, .int .i64 4, .int .i64 5, .int .i64 6, .int .i64 7, .int .i64 8, .int .i64 9, .int .i64 10] 43)).alloc (.cells #[.int .i64 21, .int .i64 22, .int .i64 0, .int .i64 0, .int .i64 23, .int .i64 24, .int .i64 0, .int .i64 25] 43)).alloc (.cells #[.int .i64 47, .int .i64 48, .int .i64 53, .int .i64 0, .int .i64 49, .int .i64 0, .int .i64 50, .int .i64 0] 43)) = W1 at *
 generalize w10.heap.size = p at *
 refine open_W rfl (fun _ _ _ _ _ h => h) kI (fun W pa pb F b na nb => ?_)
 replace bz := bz.trans (b.mono bz.size)
 replace K3 := K3.below b K3.lt
 replace K4 := K4.below b K4.lt
 replace K5 := K5.below b K5.lt
 clear b kI na nb
 go_upto_region 4 with (first | (with_reducible refine load_inR rfl _ rfl w.heap.size (in16 k) rfl F.i (in16_size _) ?_) | ((with_reducible refine (hN.out _).mono ?_); rintro e V ⟨rfl, x1⟩))
 have F0 := F.below x1
 have J3 := K3.below x1 K3.lt
 have J4 := K4.below x1 K4.lt
 have J5 := K5.below x1 K5.lt
 have b0 := bz.trans (x1.mono bz.size)
 clear F K3 K4 K5 bz
 clear x1
 generalize V = W at *
 have F := F0
 have K3 := J3
 have K4 := J4
 have K5 := J5
 have bz := b0
 clear F0 J3 J4 J5 b0
 go_upto_region 7 with fail
 have bD := (Below.refl W.heap.size W).drew
 have F0 := F.below bD
 have J3 := K3.below bD K3.lt
 have J4 := K4.below bD K4.lt
 have J5 := K5.below bD K5.lt
 have b0 := bz.trans (bD.mono bz.size)
 clear F K3 K4 K5 bz
 clear bD
 refine wp_region_held_drew (S := fun V => Blk V w.heap.size 26 (in16 k) ∧ Blk V p 43 #[.int .i64 3, .int .i64 4, .int .i64 5, .int .i64 6, .int .i64 7, .int .i64 8, .int .i64 9, .int .i64 10]) (by kernel_rfl) ⟨F0.i, J3⟩ (fun hH => ?_)
 generalize W.drew = W at *
 have F := F0
 have K3 := J3
 have K4 := J4
 have K5 := J5
 have bz := b0
 clear F0 J3 J4 J5 b0
 refine tk 0 ?_ ?_ hH ?_
 rotate_left
 ·intro W hS
  go_simp
  try rfl
 simp only [pT]
 refine tk 1 ?_ ?_ hH ?_
 rotate_left
 ·intro W hS
  go_simp
  try rfl
 simp only [pT]
 refine tk 2 ?_ ?_ hH ?_
 rotate_left
 ·intro W hS
  have c0 := hS.1.cell (i := 0) (v := .int .i64 k.op) rfl
  go_simp
  try rfl
 simp only [pT]
 refine rd 3 (fun K hK => ?_)
 go_simp
 with_reducible refine (hA3.out _ _ hH.2).mono ?_
 rintro e wz ⟨rfl, hwz⟩
 replace hwz := hwz.symm
 subst hwz
 refine hK.out _ _ hH (fun _ => ?_)
 clear hK K
 try simp only [pS]
 refine tk 4 ?_ ?_ hH ?_
 rotate_left
 ·intro W hS
  go_simp
  try rfl
 simp only [pT]
 refine wpAnyH_done (by kernel_rfl) ?_ _
 clear hH
 have cB0 := F.b.cell (i := 0) (v := .int .i64 k.B.k) rfl
 go_upto_region 16 with fail
 have bD := (Below.refl W.heap.size W).drew
 have F0 := F.below bD
 have J3 := K3.below bD K3.lt
 have J4 := K4.below bD K4.lt
 have J5 := K5.below bD K5.lt
 have b0 := bz.trans (bD.mono bz.size)
 clear F K3 K4 K5 bz
 clear bD
 refine wp_region_held_drew (S := fun V => Blk V w.heap.size 26 (in16 k) ∧ Blk V (p + 1) 43 #[.int .i64 21, .int .i64 22, .int .i64 0, .int .i64 0, .int .i64 23, .int .i64 24, .int .i64 0, .int .i64 25]) (by kernel_rfl) ⟨F0.i, J4⟩ (fun hH => ?_)
 generalize W.drew = W at *
 have F := F0
 have K3 := J3
 have K4 := J4
 have K5 := J5
 have bz := b0
 clear F0 J3 J4 J5 b0
 refine tk 0 ?_ ?_ hH ?_
 rotate_left
 ·intro W hS
  go_simp
  try rfl
 simp only [pT]
 refine tk 1 ?_ ?_ hH ?_
 rotate_left
 ·intro W hS
  go_simp
  try rfl
 simp only [pT]
 refine tk 2 ?_ ?_ hH ?_
 rotate_left
 ·intro W hS
  have c0 := hS.1.cell (i := 0) (v := .int .i64 k.op) rfl
  go_simp
  try rfl
 simp only [pT]
 refine rd 3 (fun K hK => ?_)
 go_simp
 with_reducible refine (hA4.out _ _ hH.2).mono ?_
 rintro e wz ⟨rfl, hwz⟩
 replace hwz := hwz.symm
 subst hwz
 refine hK.out _ _ hH (fun _ => ?_)
 clear hK K
 try simp only [pS]
 refine tk 4 ?_ ?_ hH ?_
 rotate_left
 ·intro W hS
  go_simp
  try rfl
 simp only [pT]
 refine wpAnyH_done (by kernel_rfl) ?_ _
 clear hH
 have bW := Below.refl W.heap.size W
 have b0 := bz
 have pa_lt := F.a.lt
 have pb_lt := F.b.lt
 have cB1 := F.b.cell (i := 0) (v := .int .i64 k.B.k) rfl
 go_upto_region 19 with fail
 go_wp2_with (first | (with_reducible refine load_opR rfl _ rfl pa (op6 k.A) rfl (F.a.alloc _) rfl ?_) | ((with_reducible refine (hM.out _).mono ?_); rintro e w2 ⟨v1, vs1, rfl, R1, x1⟩))
 go_ret
 exact ⟨_, rfl, R1.ll.base b0.size, b0.trans (x1.mono b0.size)⟩
theorem w_sh1 (k : In) (hN0 : NoFix k) (g : Int) (hn : 0 ≤ g ∧ g < 8) (h3 : atN [3, 4, 5, 6, 7, 8, 9, 10] k.op 0 = -1) (h4 : atN [21, 22, 0, 0, 23, 24, 0, 25] k.op 0 = g) (hk : (k.B.k == 1) = false) (h1 : (k.B.m == 1) = true) (hX : RMb k.A) (hm : 0 ≤ k.B.m ∧ k.B.m ≤ 4294967295) (w : World) : Gives 23 k w (mW [209] k.A g ++ b1 (mW [193] k.A (g)) k.B.m) := by
 have hg0 : ((0 : Int) ≤ g) = True := eq_true hn.1
 have hw8 : IntKind.i64.wrap (8 * g) = 8 * g := by rw [IntKind.wrap_i64]; omega
 have hA3 := Lib.hid (fun W B (h : Blk W B 43 #[.int .i64 3, .int .i64 4, .int .i64 5, .int .i64 6, .int .i64 7, .int .i64 8, .int .i64 9, .int .i64 10]) => at_any [3, 4, 5, 6, 7, 8, 9, 10] k.op W B 8 43 rfl (by decide) h)
 rw [h3] at hA3
 have hA4 := Lib.hid (fun W B (h : Blk W B 43 #[.int .i64 21, .int .i64 22, .int .i64 0, .int .i64 0, .int .i64 23, .int .i64 24, .int .i64 0, .int .i64 25]) => at_any [21, 22, 0, 0, 23, 24, 0, 25] k.op W B 8 43 rfl (by decide) h)
 rw [h4] at hA4
 have hB := Lib.hid hm
 have hM := Lib.hid (fun W => mod_one W (show 0 ≤ (193 : Int) ∧ (193 : Int) ≤ 255 by decide) hX hn)
 have hM1 := Lib.hid (fun W => mod_one W (show 0 ≤ (209 : Int) ∧ (209 : Int) ≤ 255 by decide) hX hn)
 clear h3 h4
 have l209 := mW_len [209] k.A g
 have hN := Lib.hid hN0
 clear hN0
 have h8 := Lib.hid groups_ref
 have h9 := Lib.hid shifts_ref
 have h10 := Lib.hid numbers_ref
 go_enter Tryd.func23, Tryd.ntmps23
 go_upto_region 2 with (first | ((with_reducible refine (h8.out _).mono ?_); rintro e w8 ⟨rfl, b8⟩) | ((with_reducible refine (h9.out _).mono ?_); rintro e w9 ⟨rfl, b9⟩) | ((with_reducible refine (h10.out _).mono ?_); rintro e w10 ⟨rfl, b10⟩))
 clear h8 h9 h10
 obtain ⟨K3, K4, K5, ba⟩ := arr3 w10 #[.int .i64 3, .int .i64 4, .int .i64 5, .int .i64 6, .int .i64 7, .int .i64 8, .int .i64 9, .int .i64 10] #[.int .i64 21, .int .i64 22, .int .i64 0, .int .i64 0, .int .i64 23, .int .i64 24, .int .i64 0, .int .i64 25] #[.int .i64 47, .int .i64 48, .int .i64 53, .int .i64 0, .int .i64 49, .int .i64 0, .int .i64 50, .int .i64 0] 43
 have bz : Below w.heap.size w w8 := bel1 (Below.refl _ _) (Nat.le_refl _) b8
 replace bz := bz.trans (b9.mono bz.size)
 replace bz := bz.trans (b10.mono bz.size)
 replace bz := bz.trans (ba.mono bz.size)
 have kI := (Blk.new w 26 (in16 k)).below (((b8.trans (b9.mono b8.size)).trans (b10.mono (Nat.le_trans b8.size b9.size))).trans (ba.mono (Nat.le_trans b8.size (Nat.le_trans b9.size b10.size)))) (Blk.new w 26 (in16 k)).lt
 clear b8 b9 b10 ba
 generalize (((w10.alloc (.cells #[.int .i64 3, .int .i64 4, .int .i64 5, .int .i64 6, .int .i64 7, .int .i64 8, .int .i64 9, .int .i64 10] 43)).alloc (.cells #[.int .i64 21, .int .i64 22, .int .i64 0, .int .i64 0, .int .i64 23, .int .i64 24, .int .i64 0, .int .i64 25] 43)).alloc (.cells #[.int .i64 47, .int .i64 48, .int .i64 53, .int .i64 0, .int .i64 49, .int .i64 0, .int .i64 50, .int .i64 0] 43)) = W1 at *
 generalize w10.heap.size = p at *
 refine open_W rfl (fun _ _ _ _ _ h => h) kI (fun W pa pb F b na nb => ?_)
 replace bz := bz.trans (b.mono bz.size)
 replace K3 := K3.below b K3.lt
 replace K4 := K4.below b K4.lt
 replace K5 := K5.below b K5.lt
 clear b kI na nb
 go_upto_region 4 with (first | (with_reducible refine load_inR rfl _ rfl w.heap.size (in16 k) rfl F.i (in16_size _) ?_) | ((with_reducible refine (hN.out _).mono ?_); rintro e V ⟨rfl, x1⟩))
 have F0 := F.below x1
 have J3 := K3.below x1 K3.lt
 have J4 := K4.below x1 K4.lt
 have J5 := K5.below x1 K5.lt
 have b0 := bz.trans (x1.mono bz.size)
 clear F K3 K4 K5 bz
 clear x1
 generalize V = W at *
 have F := F0
 have K3 := J3
 have K4 := J4
 have K5 := J5
 have bz := b0
 clear F0 J3 J4 J5 b0
 go_upto_region 7 with fail
 have bD := (Below.refl W.heap.size W).drew
 have F0 := F.below bD
 have J3 := K3.below bD K3.lt
 have J4 := K4.below bD K4.lt
 have J5 := K5.below bD K5.lt
 have b0 := bz.trans (bD.mono bz.size)
 clear F K3 K4 K5 bz
 clear bD
 refine wp_region_held_drew (S := fun V => Blk V w.heap.size 26 (in16 k) ∧ Blk V p 43 #[.int .i64 3, .int .i64 4, .int .i64 5, .int .i64 6, .int .i64 7, .int .i64 8, .int .i64 9, .int .i64 10]) (by kernel_rfl) ⟨F0.i, J3⟩ (fun hH => ?_)
 generalize W.drew = W at *
 have F := F0
 have K3 := J3
 have K4 := J4
 have K5 := J5
 have bz := b0
 clear F0 J3 J4 J5 b0
 refine tk 0 ?_ ?_ hH ?_
 rotate_left
 ·intro W hS
  go_simp
  try rfl
 simp only [pT]
 refine tk 1 ?_ ?_ hH ?_
 rotate_left
 ·intro W hS
  go_simp
  try rfl
 simp only [pT]
 refine tk 2 ?_ ?_ hH ?_
 rotate_left
 ·intro W hS
  have c0 := hS.1.cell (i := 0) (v := .int .i64 k.op) rfl
  go_simp
  try rfl
 simp only [pT]
 refine rd 3 (fun K hK => ?_)
 go_simp
 with_reducible refine (hA3.out _ _ hH.2).mono ?_
 rintro e wz ⟨rfl, hwz⟩
 replace hwz := hwz.symm
 subst hwz
 refine hK.out _ _ hH (fun _ => ?_)
 clear hK K
 try simp only [pS]
 refine tk 4 ?_ ?_ hH ?_
 rotate_left
 ·intro W hS
  go_simp
  try rfl
 simp only [pT]
 refine wpAnyH_done (by kernel_rfl) ?_ _
 clear hH
 have cB0 := F.b.cell (i := 0) (v := .int .i64 k.B.k) rfl
 go_upto_region 16 with fail
 have bD := (Below.refl W.heap.size W).drew
 have F0 := F.below bD
 have J3 := K3.below bD K3.lt
 have J4 := K4.below bD K4.lt
 have J5 := K5.below bD K5.lt
 have b0 := bz.trans (bD.mono bz.size)
 clear F K3 K4 K5 bz
 clear bD
 refine wp_region_held_drew (S := fun V => Blk V w.heap.size 26 (in16 k) ∧ Blk V (p + 1) 43 #[.int .i64 21, .int .i64 22, .int .i64 0, .int .i64 0, .int .i64 23, .int .i64 24, .int .i64 0, .int .i64 25]) (by kernel_rfl) ⟨F0.i, J4⟩ (fun hH => ?_)
 generalize W.drew = W at *
 have F := F0
 have K3 := J3
 have K4 := J4
 have K5 := J5
 have bz := b0
 clear F0 J3 J4 J5 b0
 refine tk 0 ?_ ?_ hH ?_
 rotate_left
 ·intro W hS
  go_simp
  try rfl
 simp only [pT]
 refine tk 1 ?_ ?_ hH ?_
 rotate_left
 ·intro W hS
  go_simp
  try rfl
 simp only [pT]
 refine tk 2 ?_ ?_ hH ?_
 rotate_left
 ·intro W hS
  have c0 := hS.1.cell (i := 0) (v := .int .i64 k.op) rfl
  go_simp
  try rfl
 simp only [pT]
 refine rd 3 (fun K hK => ?_)
 go_simp
 with_reducible refine (hA4.out _ _ hH.2).mono ?_
 rintro e wz ⟨rfl, hwz⟩
 replace hwz := hwz.symm
 subst hwz
 refine hK.out _ _ hH (fun _ => ?_)
 clear hK K
 try simp only [pS]
 refine tk 4 ?_ ?_ hH ?_
 rotate_left
 ·intro W hS
  go_simp
  try rfl
 simp only [pT]
 refine wpAnyH_done (by kernel_rfl) ?_ _
 clear hH
 have bW := Below.refl W.heap.size W
 have b0 := bz
 have pa_lt := F.a.lt
 have pb_lt := F.b.lt
 have cB1 := F.b.cell (i := 0) (v := .int .i64 k.B.k) rfl
 have cB2 := F.b.cell (i := 2) (v := .int .u32 k.B.m) rfl
 go_upto_region 21 with fail
 clear cB1 cB2
 go_upto_region 22 with (first | (with_reducible refine load_opR rfl _ rfl pa (op6 k.A) rfl (F.a.alloc _) rfl ?_) | ((with_reducible refine (hM1.out _).mono ?_); rintro e w9 ⟨v9, vs9, rfl, R9, z9⟩))
 have L9 := R9.ll
 have F9 := F.below z9
 have k10 : Blk w9.drew pa 24 (op6 k.A) ∧ Blk w9.drew pb 24 (op6 k.B) := ⟨F9.a.drew, F9.b.drew⟩
 refine wp_region_held_drew (S := fun V => Blk V pa 24 (op6 k.A) ∧ Blk V pb 24 (op6 k.B)) (by kernel_rfl) k10 (fun hH10 => ?_)
 clear k10
 have d10 := (Below.refl w9.heap.size w9).drew
 have LD10 := L9.below d10
 have hsz10 : w9.heap.size = w9.drew.heap.size := rfl
 generalize w9.drew = D10 at *
 refine tk 0 ?_ ?_ hH10 ?_
 rotate_left
 ·intro W hS
  go_simp
  try rfl
 simp only [pT]
 refine tk 2 (opV k.A) ?_ hH10 ?_
 ·intro W hS
  exact run_load_row (by rfl) (by rfl) 24 _ (0, 0) _ hS.1.h Tryd.underlying24 rfl (szOp k.A)
 simp only [pS]
 refine tk 3 ?_ ?_ hH10 ?_
 rotate_left
 ·intro W hS
  go_simp
  try rfl
 simp only [pT]
 refine tk 5 ?_ ?_ hH10 ?_
 rotate_left
 ·intro W hS
  go_simp
  try rfl
 simp only [pT]
 refine tk 6 ?_ ?_ hH10 ?_
 rotate_left
 ·intro W hS
  have c2 := hS.2.cell (i := 2) (v := .int .u32 k.B.m) rfl
  go_simp
  try rfl
 simp only [pT]
 refine rd 1 (fun K hK => ?_)
 go_simp
 have hA10 := And.intro (hH10.1.alloc (arr1 (193))) (hH10.2.alloc (arr1 (193)))
 refine hK.out _ _ hA10 (fun _ => ?_)
 clear hK K
 try simp only [pT]
 refine rd 4 (fun K hK => ?_)
 go_simp
 with_reducible refine (hM.out _).mono ?_
 rintro e u10 ⟨p10, vs10, rfl, R10, x10⟩
 have hB10 := And.intro (hH10.1.below x10 hH10.1.lt) (hH10.2.below x10 hH10.2.lt)
 refine hK.out _ _ hB10 (fun _ => ?_)
 clear hK K
 try simp only [pS]
 refine rd 7 (fun K hK => ?_)
 go_simp
 with_reducible refine (behind_one _ _ _ _ k.B.m hB.out _ R10 x10.size (fun y hy => mW_short hX hn y hy) (by have := mW_len [193] k.A (g); omega)).mono ?_
 rintro e t10 ⟨rfl, ⟨us10, S10⟩, y10⟩
 have y10' := (Below.mono y10 (Nat.le_refl _))
 have hC10 := And.intro (hB10.1.below y10 hH10.1.lt) (hB10.2.below y10 hH10.2.lt)
 refine hK.out _ _ hC10 (fun _ => ?_)
 clear hK K
 try simp only [pS]
 refine rd 8 (fun K hK => ?_)
 rw [if_pos (by kernel_rfl)]
 refine append_lsK _ _ rfl W.heap.size _ v9 _ (mW [209] k.A g) _ us10 rfl (LD10.below (x10.trans y10')) (Nat.le_trans z9.size (Nat.le_trans (Nat.le_of_eq hsz10) (Nat.le_trans x10.size y10.size))) rfl S10 (fun k hk => (LD10.lt hk).2) (by simp [b1, mW_ne hX]) (by have := mW_len [193] k.A (g); simp [b1, b4]; omega) (fun v10 w10 L10 g10 => ?_)
 have hE10 := And.intro ((hC10.1).below (g10.mono (Nat.le_refl _)) pa_lt) ((hC10.2).below g10 pb_lt)
 refine hK.out _ _ hE10 (fun _ => ?_)
 clear hK K
 try simp only [pT]
 refine tk 9 ?_ ?_ hE10 ?_
 rotate_left
 ·intro W hS
  go_simp
  try rfl
 simp only [pT]
 refine wpAnyH_done (by kernel_rfl) ?_ _
 have x10' : Below w9.heap.size w9 t10 := ((d10.trans (x10.mono (Nat.le_of_eq hsz10))).trans (y10.mono (Nat.le_of_eq hsz10)))
 replace x10 := x10'
 have z10 : Below W.heap.size W w10 := (z9.trans (x10.mono z9.size)).trans g10
 have F10 := F.below z10
 go_wp2_with fail
 go_ret
 exact ⟨v10, rfl, by simpa using L10.base b0.size, b0.trans (z10.mono b0.size)⟩
theorem w_shn (k : In) (hN0 : NoFix k) (g : Int) (hn : 0 ≤ g ∧ g < 8) (h3 : atN [3, 4, 5, 6, 7, 8, 9, 10] k.op 0 = -1) (h4 : atN [21, 22, 0, 0, 23, 24, 0, 25] k.op 0 = g) (hk : (k.B.k == 1) = false) (h1 : (k.B.m == 1) = false) (hX : RMb k.A) (hm : 0 ≤ k.B.m ∧ k.B.m ≤ 4294967295) (w : World) : Gives 23 k w ([] ++ b1 (mW [193] k.A (g)) k.B.m) := by
 have hg0 : ((0 : Int) ≤ g) = True := eq_true hn.1
 have hw8 : IntKind.i64.wrap (8 * g) = 8 * g := by rw [IntKind.wrap_i64]; omega
 have hA3 := Lib.hid (fun W B (h : Blk W B 43 #[.int .i64 3, .int .i64 4, .int .i64 5, .int .i64 6, .int .i64 7, .int .i64 8, .int .i64 9, .int .i64 10]) => at_any [3, 4, 5, 6, 7, 8, 9, 10] k.op W B 8 43 rfl (by decide) h)
 rw [h3] at hA3
 have hA4 := Lib.hid (fun W B (h : Blk W B 43 #[.int .i64 21, .int .i64 22, .int .i64 0, .int .i64 0, .int .i64 23, .int .i64 24, .int .i64 0, .int .i64 25]) => at_any [21, 22, 0, 0, 23, 24, 0, 25] k.op W B 8 43 rfl (by decide) h)
 rw [h4] at hA4
 have hB := Lib.hid hm
 have hM := Lib.hid (fun W => mod_one W (show 0 ≤ (193 : Int) ∧ (193 : Int) ≤ 255 by decide) hX hn)
 have hM1 := Lib.hid (fun W => mod_one W (show 0 ≤ (209 : Int) ∧ (209 : Int) ≤ 255 by decide) hX hn)
 clear h3 h4
 have l209 := mW_len [209] k.A g
 have hN := Lib.hid hN0
 clear hN0
 have h8 := Lib.hid groups_ref
 have h9 := Lib.hid shifts_ref
 have h10 := Lib.hid numbers_ref
 go_enter Tryd.func23, Tryd.ntmps23
 go_upto_region 2 with (first | ((with_reducible refine (h8.out _).mono ?_); rintro e w8 ⟨rfl, b8⟩) | ((with_reducible refine (h9.out _).mono ?_); rintro e w9 ⟨rfl, b9⟩) | ((with_reducible refine (h10.out _).mono ?_); rintro e w10 ⟨rfl, b10⟩))
 clear h8 h9 h10
 obtain ⟨K3, K4, K5, ba⟩ := arr3 w10 #[.int .i64 3, .int .i64 4, .int .i64 5, .int .i64 6, .int .i64 7, .int .i64 8, .int .i64 9, .int .i64 10] #[.int .i64 21, .int .i64 22, .int .i64 0, .int .i64 0, .int .i64 23, .int .i64 24, .int .i64 0, .int .i64 25] #[.int .i64 47, .int .i64 48, .int .i64 53, .int .i64 0, .int .i64 49, .int .i64 0, .int .i64 50, .int .i64 0] 43
 have bz : Below w.heap.size w w8 := bel1 (Below.refl _ _) (Nat.le_refl _) b8
 replace bz := bz.trans (b9.mono bz.size)
 replace bz := bz.trans (b10.mono bz.size)
 replace bz := bz.trans (ba.mono bz.size)
 have kI := (Blk.new w 26 (in16 k)).below (((b8.trans (b9.mono b8.size)).trans (b10.mono (Nat.le_trans b8.size b9.size))).trans (ba.mono (Nat.le_trans b8.size (Nat.le_trans b9.size b10.size)))) (Blk.new w 26 (in16 k)).lt
 clear b8 b9 b10 ba
 generalize (((w10.alloc (.cells #[.int .i64 3, .int .i64 4, .int .i64 5, .int .i64 6, .int .i64 7, .int .i64 8, .int .i64 9, .int .i64 10] 43)).alloc (.cells #[.int .i64 21, .int .i64 22, .int .i64 0, .int .i64 0, .int .i64 23, .int .i64 24, .int .i64 0, .int .i64 25] 43)).alloc (.cells #[.int .i64 47, .int .i64 48, .int .i64 53, .int .i64 0, .int .i64 49, .int .i64 0, .int .i64 50, .int .i64 0] 43)) = W1 at *
 generalize w10.heap.size = p at *
 refine open_W rfl (fun _ _ _ _ _ h => h) kI (fun W pa pb F b na nb => ?_)
 replace bz := bz.trans (b.mono bz.size)
 replace K3 := K3.below b K3.lt
 replace K4 := K4.below b K4.lt
 replace K5 := K5.below b K5.lt
 clear b kI na nb
 go_upto_region 4 with (first | (with_reducible refine load_inR rfl _ rfl w.heap.size (in16 k) rfl F.i (in16_size _) ?_) | ((with_reducible refine (hN.out _).mono ?_); rintro e V ⟨rfl, x1⟩))
 have F0 := F.below x1
 have J3 := K3.below x1 K3.lt
 have J4 := K4.below x1 K4.lt
 have J5 := K5.below x1 K5.lt
 have b0 := bz.trans (x1.mono bz.size)
 clear F K3 K4 K5 bz
 clear x1
 generalize V = W at *
 have F := F0
 have K3 := J3
 have K4 := J4
 have K5 := J5
 have bz := b0
 clear F0 J3 J4 J5 b0
 go_upto_region 7 with fail
 have bD := (Below.refl W.heap.size W).drew
 have F0 := F.below bD
 have J3 := K3.below bD K3.lt
 have J4 := K4.below bD K4.lt
 have J5 := K5.below bD K5.lt
 have b0 := bz.trans (bD.mono bz.size)
 clear F K3 K4 K5 bz
 clear bD
 refine wp_region_held_drew (S := fun V => Blk V w.heap.size 26 (in16 k) ∧ Blk V p 43 #[.int .i64 3, .int .i64 4, .int .i64 5, .int .i64 6, .int .i64 7, .int .i64 8, .int .i64 9, .int .i64 10]) (by kernel_rfl) ⟨F0.i, J3⟩ (fun hH => ?_)
 generalize W.drew = W at *
 have F := F0
 have K3 := J3
 have K4 := J4
 have K5 := J5
 have bz := b0
 clear F0 J3 J4 J5 b0
 refine tk 0 ?_ ?_ hH ?_
 rotate_left
 ·intro W hS
  go_simp
  try rfl
 simp only [pT]
 refine tk 1 ?_ ?_ hH ?_
 rotate_left
 ·intro W hS
  go_simp
  try rfl
 simp only [pT]
 refine tk 2 ?_ ?_ hH ?_
 rotate_left
 ·intro W hS
  have c0 := hS.1.cell (i := 0) (v := .int .i64 k.op) rfl
  go_simp
  try rfl
 simp only [pT]
 refine rd 3 (fun K hK => ?_)
 go_simp
 with_reducible refine (hA3.out _ _ hH.2).mono ?_
 rintro e wz ⟨rfl, hwz⟩
 replace hwz := hwz.symm
 subst hwz
 refine hK.out _ _ hH (fun _ => ?_)
 clear hK K
 try simp only [pS]
 refine tk 4 ?_ ?_ hH ?_
 rotate_left
 ·intro W hS
  go_simp
  try rfl
 simp only [pT]
 refine wpAnyH_done (by kernel_rfl) ?_ _
 clear hH
 have cB0 := F.b.cell (i := 0) (v := .int .i64 k.B.k) rfl
 go_upto_region 16 with fail
 have bD := (Below.refl W.heap.size W).drew
 have F0 := F.below bD
 have J3 := K3.below bD K3.lt
 have J4 := K4.below bD K4.lt
 have J5 := K5.below bD K5.lt
 have b0 := bz.trans (bD.mono bz.size)
 clear F K3 K4 K5 bz
 clear bD
 refine wp_region_held_drew (S := fun V => Blk V w.heap.size 26 (in16 k) ∧ Blk V (p + 1) 43 #[.int .i64 21, .int .i64 22, .int .i64 0, .int .i64 0, .int .i64 23, .int .i64 24, .int .i64 0, .int .i64 25]) (by kernel_rfl) ⟨F0.i, J4⟩ (fun hH => ?_)
 generalize W.drew = W at *
 have F := F0
 have K3 := J3
 have K4 := J4
 have K5 := J5
 have bz := b0
 clear F0 J3 J4 J5 b0
 refine tk 0 ?_ ?_ hH ?_
 rotate_left
 ·intro W hS
  go_simp
  try rfl
 simp only [pT]
 refine tk 1 ?_ ?_ hH ?_
 rotate_left
 ·intro W hS
  go_simp
  try rfl
 simp only [pT]
 refine tk 2 ?_ ?_ hH ?_
 rotate_left
 ·intro W hS
  have c0 := hS.1.cell (i := 0) (v := .int .i64 k.op) rfl
  go_simp
  try rfl
 simp only [pT]
 refine rd 3 (fun K hK => ?_)
 go_simp
 with_reducible refine (hA4.out _ _ hH.2).mono ?_
 rintro e wz ⟨rfl, hwz⟩
 replace hwz := hwz.symm
 subst hwz
 refine hK.out _ _ hH (fun _ => ?_)
 clear hK K
 try simp only [pS]
 refine tk 4 ?_ ?_ hH ?_
 rotate_left
 ·intro W hS
  go_simp
  try rfl
 simp only [pT]
 refine wpAnyH_done (by kernel_rfl) ?_ _
 clear hH
 have bW := Below.refl W.heap.size W
 have b0 := bz
 have pa_lt := F.a.lt
 have pb_lt := F.b.lt
 have cB1 := F.b.cell (i := 0) (v := .int .i64 k.B.k) rfl
 have cB2 := F.b.cell (i := 2) (v := .int .u32 k.B.m) rfl
 go_upto_region 22 with fail
 clear cB1 cB2
 have k1 : Blk W.drew pa 24 (op6 k.A) ∧ Blk W.drew pb 24 (op6 k.B) := ⟨F.a.drew, F.b.drew⟩
 refine wp_region_held_drew (S := fun V => Blk V pa 24 (op6 k.A) ∧ Blk V pb 24 (op6 k.B)) (by kernel_rfl) k1 (fun hH1 => ?_)
 clear k1
 have d1 := (Below.refl W.heap.size W).drew
 have hsz1 : W.heap.size = W.drew.heap.size := rfl
 generalize W.drew = D1 at *
 refine tk 0 ?_ ?_ hH1 ?_
 rotate_left
 ·intro W hS
  go_simp
  try rfl
 simp only [pT]
 refine tk 2 (opV k.A) ?_ hH1 ?_
 ·intro W hS
  exact run_load_row (by rfl) (by rfl) 24 _ (0, 0) _ hS.1.h Tryd.underlying24 rfl (szOp k.A)
 simp only [pS]
 refine tk 3 ?_ ?_ hH1 ?_
 rotate_left
 ·intro W hS
  go_simp
  try rfl
 simp only [pT]
 refine tk 5 ?_ ?_ hH1 ?_
 rotate_left
 ·intro W hS
  go_simp
  try rfl
 simp only [pT]
 refine tk 6 ?_ ?_ hH1 ?_
 rotate_left
 ·intro W hS
  have c2 := hS.2.cell (i := 2) (v := .int .u32 k.B.m) rfl
  go_simp
  try rfl
 simp only [pT]
 refine rd 1 (fun K hK => ?_)
 go_simp
 have hA1 := And.intro (hH1.1.alloc (arr1 (193))) (hH1.2.alloc (arr1 (193)))
 refine hK.out _ _ hA1 (fun _ => ?_)
 clear hK K
 try simp only [pT]
 refine rd 4 (fun K hK => ?_)
 go_simp
 with_reducible refine (hM.out _).mono ?_
 rintro e u1 ⟨p1, vs1, rfl, R1, x1⟩
 have hB1 := And.intro (hH1.1.below x1 hH1.1.lt) (hH1.2.below x1 hH1.2.lt)
 refine hK.out _ _ hB1 (fun _ => ?_)
 clear hK K
 try simp only [pS]
 refine rd 7 (fun K hK => ?_)
 go_simp
 with_reducible refine (behind_one _ _ _ _ k.B.m hB.out _ R1 x1.size (fun y hy => mW_short hX hn y hy) (by have := mW_len [193] k.A (g); omega)).mono ?_
 rintro e t1 ⟨rfl, ⟨us1, S1⟩, y1⟩
 have y1' := (Below.mono y1 (Nat.le_refl _))
 have hC1 := And.intro (hB1.1.below y1 hH1.1.lt) (hB1.2.below y1 hH1.2.lt)
 refine hK.out _ _ hC1 (fun _ => ?_)
 clear hK K
 try simp only [pS]
 refine rd 8 (fun K hK => ?_)
 rw [if_pos (by kernel_rfl)]
 refine append_lsK _ _ rfl W.heap.size _ (.slice none 0 0) _ ([]) _ us1 rfl (LL.nil _ _) (Nat.le_trans bW.size (Nat.le_trans (Nat.le_of_eq hsz1) (Nat.le_trans x1.size y1.size))) rfl S1 (fun k hk => by cases hk) (by simp [b1, mW_ne hX]) (by have := mW_len [193] k.A (g); simp [b1, b4]; omega) (fun v1 w1 L1 g1 => ?_)
 have hE1 := And.intro ((hC1.1).below (g1.mono (Nat.le_refl _)) pa_lt) ((hC1.2).below g1 pb_lt)
 refine hK.out _ _ hE1 (fun _ => ?_)
 clear hK K
 try simp only [pT]
 refine tk 9 ?_ ?_ hE1 ?_
 rotate_left
 ·intro W hS
  go_simp
  try rfl
 simp only [pT]
 refine wpAnyH_done (by kernel_rfl) ?_ _
 have x1' : Below W.heap.size W t1 := ((d1.trans (x1.mono (Nat.le_of_eq hsz1))).trans (y1.mono (Nat.le_of_eq hsz1)))
 replace x1 := x1'
 have z1 : Below W.heap.size W w1 := (bW.trans (x1.mono bW.size)).trans g1
 have F1 := F.below z1
 go_wp2_with fail
 go_ret
 exact ⟨v1, rfl, by simpa using L1.base b0.size, b0.trans (z1.mono b0.size)⟩
theorem w_num (k : In) (hN0 : NoFix k) (g : Int) (hn : 0 ≤ g ∧ g < 8) (h3 : atN [3, 4, 5, 6, 7, 8, 9, 10] k.op 0 = -1) (h4 : atN [21, 22, 0, 0, 23, 24, 0, 25] k.op 0 = -1) (h5 : atN [47, 48, 53, 0, 49, 0, 50, 0] k.op 0 = g) (hX : RMb k.A) (w : World) : Gives 23 k w (mW [220] k.A g) := by
 have hg0 : ((0 : Int) ≤ g) = True := eq_true hn.1
 have hw8 : IntKind.i64.wrap (8 * g) = 8 * g := by rw [IntKind.wrap_i64]; omega
 have hA3 := Lib.hid (fun W B (h : Blk W B 43 #[.int .i64 3, .int .i64 4, .int .i64 5, .int .i64 6, .int .i64 7, .int .i64 8, .int .i64 9, .int .i64 10]) => at_any [3, 4, 5, 6, 7, 8, 9, 10] k.op W B 8 43 rfl (by decide) h)
 rw [h3] at hA3
 have hA4 := Lib.hid (fun W B (h : Blk W B 43 #[.int .i64 21, .int .i64 22, .int .i64 0, .int .i64 0, .int .i64 23, .int .i64 24, .int .i64 0, .int .i64 25]) => at_any [21, 22, 0, 0, 23, 24, 0, 25] k.op W B 8 43 rfl (by decide) h)
 rw [h4] at hA4
 have hA5 := Lib.hid (fun W B (h : Blk W B 43 #[.int .i64 47, .int .i64 48, .int .i64 53, .int .i64 0, .int .i64 49, .int .i64 0, .int .i64 50, .int .i64 0]) => at_any [47, 48, 53, 0, 49, 0, 50, 0] k.op W B 8 43 rfl (by decide) h)
 rw [h5] at hA5
 have hM := Lib.hid (fun W => mod_one W (show 0 ≤ (220 : Int) ∧ (220 : Int) ≤ 255 by decide) hX hn)
 clear h3 h4 h5 hn
 have hN := Lib.hid hN0
 clear hN0
 have h8 := Lib.hid groups_ref
 have h9 := Lib.hid shifts_ref
 have h10 := Lib.hid numbers_ref
 go_enter Tryd.func23, Tryd.ntmps23
 go_upto_region 2 with (first | ((with_reducible refine (h8.out _).mono ?_); rintro e w8 ⟨rfl, b8⟩) | ((with_reducible refine (h9.out _).mono ?_); rintro e w9 ⟨rfl, b9⟩) | ((with_reducible refine (h10.out _).mono ?_); rintro e w10 ⟨rfl, b10⟩))
 clear h8 h9 h10
 obtain ⟨K3, K4, K5, ba⟩ := arr3 w10 #[.int .i64 3, .int .i64 4, .int .i64 5, .int .i64 6, .int .i64 7, .int .i64 8, .int .i64 9, .int .i64 10] #[.int .i64 21, .int .i64 22, .int .i64 0, .int .i64 0, .int .i64 23, .int .i64 24, .int .i64 0, .int .i64 25] #[.int .i64 47, .int .i64 48, .int .i64 53, .int .i64 0, .int .i64 49, .int .i64 0, .int .i64 50, .int .i64 0] 43
 have bz : Below w.heap.size w w8 := bel1 (Below.refl _ _) (Nat.le_refl _) b8
 replace bz := bz.trans (b9.mono bz.size)
 replace bz := bz.trans (b10.mono bz.size)
 replace bz := bz.trans (ba.mono bz.size)
 have kI := (Blk.new w 26 (in16 k)).below (((b8.trans (b9.mono b8.size)).trans (b10.mono (Nat.le_trans b8.size b9.size))).trans (ba.mono (Nat.le_trans b8.size (Nat.le_trans b9.size b10.size)))) (Blk.new w 26 (in16 k)).lt
 clear b8 b9 b10 ba
 generalize (((w10.alloc (.cells #[.int .i64 3, .int .i64 4, .int .i64 5, .int .i64 6, .int .i64 7, .int .i64 8, .int .i64 9, .int .i64 10] 43)).alloc (.cells #[.int .i64 21, .int .i64 22, .int .i64 0, .int .i64 0, .int .i64 23, .int .i64 24, .int .i64 0, .int .i64 25] 43)).alloc (.cells #[.int .i64 47, .int .i64 48, .int .i64 53, .int .i64 0, .int .i64 49, .int .i64 0, .int .i64 50, .int .i64 0] 43)) = W1 at *
 generalize w10.heap.size = p at *
 refine open_W rfl (fun _ _ _ _ _ h => h) kI (fun W pa pb F b na nb => ?_)
 replace bz := bz.trans (b.mono bz.size)
 replace K3 := K3.below b K3.lt
 replace K4 := K4.below b K4.lt
 replace K5 := K5.below b K5.lt
 clear b kI na nb
 go_upto_region 4 with (first | (with_reducible refine load_inR rfl _ rfl w.heap.size (in16 k) rfl F.i (in16_size _) ?_) | ((with_reducible refine (hN.out _).mono ?_); rintro e V ⟨rfl, x1⟩))
 have F0 := F.below x1
 have J3 := K3.below x1 K3.lt
 have J4 := K4.below x1 K4.lt
 have J5 := K5.below x1 K5.lt
 have b0 := bz.trans (x1.mono bz.size)
 clear F K3 K4 K5 bz
 clear x1
 generalize V = W at *
 have F := F0
 have K3 := J3
 have K4 := J4
 have K5 := J5
 have bz := b0
 clear F0 J3 J4 J5 b0
 go_upto_region 7 with fail
 have bD := (Below.refl W.heap.size W).drew
 have F0 := F.below bD
 have J3 := K3.below bD K3.lt
 have J4 := K4.below bD K4.lt
 have J5 := K5.below bD K5.lt
 have b0 := bz.trans (bD.mono bz.size)
 clear F K3 K4 K5 bz
 clear bD
 refine wp_region_held_drew (S := fun V => Blk V w.heap.size 26 (in16 k) ∧ Blk V p 43 #[.int .i64 3, .int .i64 4, .int .i64 5, .int .i64 6, .int .i64 7, .int .i64 8, .int .i64 9, .int .i64 10]) (by kernel_rfl) ⟨F0.i, J3⟩ (fun hH => ?_)
 generalize W.drew = W at *
 have F := F0
 have K3 := J3
 have K4 := J4
 have K5 := J5
 have bz := b0
 clear F0 J3 J4 J5 b0
 refine tk 0 ?_ ?_ hH ?_
 rotate_left
 ·intro W hS
  go_simp
  try rfl
 simp only [pT]
 refine tk 1 ?_ ?_ hH ?_
 rotate_left
 ·intro W hS
  go_simp
  try rfl
 simp only [pT]
 refine tk 2 ?_ ?_ hH ?_
 rotate_left
 ·intro W hS
  have c0 := hS.1.cell (i := 0) (v := .int .i64 k.op) rfl
  go_simp
  try rfl
 simp only [pT]
 refine rd 3 (fun K hK => ?_)
 go_simp
 with_reducible refine (hA3.out _ _ hH.2).mono ?_
 rintro e wz ⟨rfl, hwz⟩
 replace hwz := hwz.symm
 subst hwz
 refine hK.out _ _ hH (fun _ => ?_)
 clear hK K
 try simp only [pS]
 refine tk 4 ?_ ?_ hH ?_
 rotate_left
 ·intro W hS
  go_simp
  try rfl
 simp only [pT]
 refine wpAnyH_done (by kernel_rfl) ?_ _
 clear hH
 have cB0 := F.b.cell (i := 0) (v := .int .i64 k.B.k) rfl
 go_upto_region 16 with fail
 have bD := (Below.refl W.heap.size W).drew
 have F0 := F.below bD
 have J3 := K3.below bD K3.lt
 have J4 := K4.below bD K4.lt
 have J5 := K5.below bD K5.lt
 have b0 := bz.trans (bD.mono bz.size)
 clear F K3 K4 K5 bz
 clear bD
 refine wp_region_held_drew (S := fun V => Blk V w.heap.size 26 (in16 k) ∧ Blk V (p + 1) 43 #[.int .i64 21, .int .i64 22, .int .i64 0, .int .i64 0, .int .i64 23, .int .i64 24, .int .i64 0, .int .i64 25]) (by kernel_rfl) ⟨F0.i, J4⟩ (fun hH => ?_)
 generalize W.drew = W at *
 have F := F0
 have K3 := J3
 have K4 := J4
 have K5 := J5
 have bz := b0
 clear F0 J3 J4 J5 b0
 refine tk 0 ?_ ?_ hH ?_
 rotate_left
 ·intro W hS
  go_simp
  try rfl
 simp only [pT]
 refine tk 1 ?_ ?_ hH ?_
 rotate_left
 ·intro W hS
  go_simp
  try rfl
 simp only [pT]
 refine tk 2 ?_ ?_ hH ?_
 rotate_left
 ·intro W hS
  have c0 := hS.1.cell (i := 0) (v := .int .i64 k.op) rfl
  go_simp
  try rfl
 simp only [pT]
 refine rd 3 (fun K hK => ?_)
 go_simp
 with_reducible refine (hA4.out _ _ hH.2).mono ?_
 rintro e wz ⟨rfl, hwz⟩
 replace hwz := hwz.symm
 subst hwz
 refine hK.out _ _ hH (fun _ => ?_)
 clear hK K
 try simp only [pS]
 refine tk 4 ?_ ?_ hH ?_
 rotate_left
 ·intro W hS
  go_simp
  try rfl
 simp only [pT]
 refine wpAnyH_done (by kernel_rfl) ?_ _
 clear hH
 go_upto_region 23 with fail
 have bD := (Below.refl W.heap.size W).drew
 have F0 := F.below bD
 have J3 := K3.below bD K3.lt
 have J4 := K4.below bD K4.lt
 have J5 := K5.below bD K5.lt
 have b0 := bz.trans (bD.mono bz.size)
 clear F K3 K4 K5 bz
 clear bD
 refine wp_region_held_drew (S := fun V => Blk V w.heap.size 26 (in16 k) ∧ Blk V (p + 1 + 1) 43 #[.int .i64 47, .int .i64 48, .int .i64 53, .int .i64 0, .int .i64 49, .int .i64 0, .int .i64 50, .int .i64 0]) (by kernel_rfl) ⟨F0.i, J5⟩ (fun hH => ?_)
 generalize W.drew = W at *
 have F := F0
 have K3 := J3
 have K4 := J4
 have K5 := J5
 have bz := b0
 clear F0 J3 J4 J5 b0
 refine tk 0 ?_ ?_ hH ?_
 rotate_left
 ·intro W hS
  go_simp
  try rfl
 simp only [pT]
 refine tk 1 ?_ ?_ hH ?_
 rotate_left
 ·intro W hS
  go_simp
  try rfl
 simp only [pT]
 refine tk 2 ?_ ?_ hH ?_
 rotate_left
 ·intro W hS
  have c0 := hS.1.cell (i := 0) (v := .int .i64 k.op) rfl
  go_simp
  try rfl
 simp only [pT]
 refine rd 3 (fun K hK => ?_)
 go_simp
 with_reducible refine (hA5.out _ _ hH.2).mono ?_
 rintro e wz ⟨rfl, hwz⟩
 replace hwz := hwz.symm
 subst hwz
 refine hK.out _ _ hH (fun _ => ?_)
 clear hK K
 try simp only [pS]
 refine tk 4 ?_ ?_ hH ?_
 rotate_left
 ·intro W hS
  go_simp
  try rfl
 simp only [pT]
 refine wpAnyH_done (by kernel_rfl) ?_ _
 clear hH
 have bW := Below.refl W.heap.size W
 have b0 := bz
 have pa_lt := F.a.lt
 have pb_lt := F.b.lt
 go_upto_region 25 with fail
 go_wp2_with (first | (with_reducible refine load_opR rfl _ rfl pa (op6 k.A) rfl (F.a.alloc _) rfl ?_) | ((with_reducible refine (hM.out _).mono ?_); rintro e w2 ⟨v1, vs1, rfl, R1, x1⟩))
 go_ret
 exact ⟨_, rfl, R1.ll.base b0.size, b0.trans (x1.mono b0.size)⟩
theorem w_sin (k : In) (hN0 : NoFix k) (h3 : atN [3, 4, 5, 6, 7, 8, 9, 10] k.op 0 = -1) (h4 : atN [21, 22, 0, 0, 23, 24, 0, 25] k.op 0 = -1) (h5 : atN [47, 48, 53, 0, 49, 0, 50, 0] k.op 0 = -1) (L : List (List Int)) (hS0 : ∀ w, Gives 54 k w L) (w : World) : Gives 23 k w (L) := by
 have hA3 := Lib.hid (fun W B (h : Blk W B 43 #[.int .i64 3, .int .i64 4, .int .i64 5, .int .i64 6, .int .i64 7, .int .i64 8, .int .i64 9, .int .i64 10]) => at_any [3, 4, 5, 6, 7, 8, 9, 10] k.op W B 8 43 rfl (by decide) h)
 rw [h3] at hA3
 have hA4 := Lib.hid (fun W B (h : Blk W B 43 #[.int .i64 21, .int .i64 22, .int .i64 0, .int .i64 0, .int .i64 23, .int .i64 24, .int .i64 0, .int .i64 25]) => at_any [21, 22, 0, 0, 23, 24, 0, 25] k.op W B 8 43 rfl (by decide) h)
 rw [h4] at hA4
 have hA5 := Lib.hid (fun W B (h : Blk W B 43 #[.int .i64 47, .int .i64 48, .int .i64 53, .int .i64 0, .int .i64 49, .int .i64 0, .int .i64 50, .int .i64 0]) => at_any [47, 48, 53, 0, 49, 0, 50, 0] k.op W B 8 43 rfl (by decide) h)
 rw [h5] at hA5
 have hS := Lib.hid hS0
 clear hS0 h3 h4 h5
 have hN := Lib.hid hN0
 clear hN0
 have h8 := Lib.hid groups_ref
 have h9 := Lib.hid shifts_ref
 have h10 := Lib.hid numbers_ref
 go_enter Tryd.func23, Tryd.ntmps23
 go_upto_region 2 with (first | ((with_reducible refine (h8.out _).mono ?_); rintro e w8 ⟨rfl, b8⟩) | ((with_reducible refine (h9.out _).mono ?_); rintro e w9 ⟨rfl, b9⟩) | ((with_reducible refine (h10.out _).mono ?_); rintro e w10 ⟨rfl, b10⟩))
 clear h8 h9 h10
 obtain ⟨K3, K4, K5, ba⟩ := arr3 w10 #[.int .i64 3, .int .i64 4, .int .i64 5, .int .i64 6, .int .i64 7, .int .i64 8, .int .i64 9, .int .i64 10] #[.int .i64 21, .int .i64 22, .int .i64 0, .int .i64 0, .int .i64 23, .int .i64 24, .int .i64 0, .int .i64 25] #[.int .i64 47, .int .i64 48, .int .i64 53, .int .i64 0, .int .i64 49, .int .i64 0, .int .i64 50, .int .i64 0] 43
 have bz : Below w.heap.size w w8 := bel1 (Below.refl _ _) (Nat.le_refl _) b8
 replace bz := bz.trans (b9.mono bz.size)
 replace bz := bz.trans (b10.mono bz.size)
 replace bz := bz.trans (ba.mono bz.size)
 have kI := (Blk.new w 26 (in16 k)).below (((b8.trans (b9.mono b8.size)).trans (b10.mono (Nat.le_trans b8.size b9.size))).trans (ba.mono (Nat.le_trans b8.size (Nat.le_trans b9.size b10.size)))) (Blk.new w 26 (in16 k)).lt
 clear b8 b9 b10 ba
 generalize (((w10.alloc (.cells #[.int .i64 3, .int .i64 4, .int .i64 5, .int .i64 6, .int .i64 7, .int .i64 8, .int .i64 9, .int .i64 10] 43)).alloc (.cells #[.int .i64 21, .int .i64 22, .int .i64 0, .int .i64 0, .int .i64 23, .int .i64 24, .int .i64 0, .int .i64 25] 43)).alloc (.cells #[.int .i64 47, .int .i64 48, .int .i64 53, .int .i64 0, .int .i64 49, .int .i64 0, .int .i64 50, .int .i64 0] 43)) = W1 at *
 generalize w10.heap.size = p at *
 refine open_W rfl (fun _ _ _ _ _ h => h) kI (fun W pa pb F b na nb => ?_)
 replace bz := bz.trans (b.mono bz.size)
 replace K3 := K3.below b K3.lt
 replace K4 := K4.below b K4.lt
 replace K5 := K5.below b K5.lt
 clear b kI na nb
 go_upto_region 4 with (first | (with_reducible refine load_inR rfl _ rfl w.heap.size (in16 k) rfl F.i (in16_size _) ?_) | ((with_reducible refine (hN.out _).mono ?_); rintro e V ⟨rfl, x1⟩))
 have F0 := F.below x1
 have J3 := K3.below x1 K3.lt
 have J4 := K4.below x1 K4.lt
 have J5 := K5.below x1 K5.lt
 have b0 := bz.trans (x1.mono bz.size)
 clear F K3 K4 K5 bz
 clear x1
 generalize V = W at *
 have F := F0
 have K3 := J3
 have K4 := J4
 have K5 := J5
 have bz := b0
 clear F0 J3 J4 J5 b0
 go_upto_region 7 with fail
 have bD := (Below.refl W.heap.size W).drew
 have F0 := F.below bD
 have J3 := K3.below bD K3.lt
 have J4 := K4.below bD K4.lt
 have J5 := K5.below bD K5.lt
 have b0 := bz.trans (bD.mono bz.size)
 clear F K3 K4 K5 bz
 clear bD
 refine wp_region_held_drew (S := fun V => Blk V w.heap.size 26 (in16 k) ∧ Blk V p 43 #[.int .i64 3, .int .i64 4, .int .i64 5, .int .i64 6, .int .i64 7, .int .i64 8, .int .i64 9, .int .i64 10]) (by kernel_rfl) ⟨F0.i, J3⟩ (fun hH => ?_)
 generalize W.drew = W at *
 have F := F0
 have K3 := J3
 have K4 := J4
 have K5 := J5
 have bz := b0
 clear F0 J3 J4 J5 b0
 refine tk 0 ?_ ?_ hH ?_
 rotate_left
 ·intro W hS
  go_simp
  try rfl
 simp only [pT]
 refine tk 1 ?_ ?_ hH ?_
 rotate_left
 ·intro W hS
  go_simp
  try rfl
 simp only [pT]
 refine tk 2 ?_ ?_ hH ?_
 rotate_left
 ·intro W hS
  have c0 := hS.1.cell (i := 0) (v := .int .i64 k.op) rfl
  go_simp
  try rfl
 simp only [pT]
 refine rd 3 (fun K hK => ?_)
 go_simp
 with_reducible refine (hA3.out _ _ hH.2).mono ?_
 rintro e wz ⟨rfl, hwz⟩
 replace hwz := hwz.symm
 subst hwz
 refine hK.out _ _ hH (fun _ => ?_)
 clear hK K
 try simp only [pS]
 refine tk 4 ?_ ?_ hH ?_
 rotate_left
 ·intro W hS
  go_simp
  try rfl
 simp only [pT]
 refine wpAnyH_done (by kernel_rfl) ?_ _
 clear hH
 have cB0 := F.b.cell (i := 0) (v := .int .i64 k.B.k) rfl
 go_upto_region 16 with fail
 have bD := (Below.refl W.heap.size W).drew
 have F0 := F.below bD
 have J3 := K3.below bD K3.lt
 have J4 := K4.below bD K4.lt
 have J5 := K5.below bD K5.lt
 have b0 := bz.trans (bD.mono bz.size)
 clear F K3 K4 K5 bz
 clear bD
 refine wp_region_held_drew (S := fun V => Blk V w.heap.size 26 (in16 k) ∧ Blk V (p + 1) 43 #[.int .i64 21, .int .i64 22, .int .i64 0, .int .i64 0, .int .i64 23, .int .i64 24, .int .i64 0, .int .i64 25]) (by kernel_rfl) ⟨F0.i, J4⟩ (fun hH => ?_)
 generalize W.drew = W at *
 have F := F0
 have K3 := J3
 have K4 := J4
 have K5 := J5
 have bz := b0
 clear F0 J3 J4 J5 b0
 refine tk 0 ?_ ?_ hH ?_
 rotate_left
 ·intro W hS
  go_simp
  try rfl
 simp only [pT]
 refine tk 1 ?_ ?_ hH ?_
 rotate_left
 ·intro W hS
  go_simp
  try rfl
 simp only [pT]
 refine tk 2 ?_ ?_ hH ?_
 rotate_left
 ·intro W hS
  have c0 := hS.1.cell (i := 0) (v := .int .i64 k.op) rfl
  go_simp
  try rfl
 simp only [pT]
 refine rd 3 (fun K hK => ?_)
 go_simp
 with_reducible refine (hA4.out _ _ hH.2).mono ?_
 rintro e wz ⟨rfl, hwz⟩
 replace hwz := hwz.symm
 subst hwz
 refine hK.out _ _ hH (fun _ => ?_)
 clear hK K
 try simp only [pS]
 refine tk 4 ?_ ?_ hH ?_
 rotate_left
 ·intro W hS
  go_simp
  try rfl
 simp only [pT]
 refine wpAnyH_done (by kernel_rfl) ?_ _
 clear hH
 go_upto_region 23 with fail
 have bD := (Below.refl W.heap.size W).drew
 have F0 := F.below bD
 have J3 := K3.below bD K3.lt
 have J4 := K4.below bD K4.lt
 have J5 := K5.below bD K5.lt
 have b0 := bz.trans (bD.mono bz.size)
 clear F K3 K4 K5 bz
 clear bD
 refine wp_region_held_drew (S := fun V => Blk V w.heap.size 26 (in16 k) ∧ Blk V (p + 1 + 1) 43 #[.int .i64 47, .int .i64 48, .int .i64 53, .int .i64 0, .int .i64 49, .int .i64 0, .int .i64 50, .int .i64 0]) (by kernel_rfl) ⟨F0.i, J5⟩ (fun hH => ?_)
 generalize W.drew = W at *
 have F := F0
 have K3 := J3
 have K4 := J4
 have K5 := J5
 have bz := b0
 clear F0 J3 J4 J5 b0
 refine tk 0 ?_ ?_ hH ?_
 rotate_left
 ·intro W hS
  go_simp
  try rfl
 simp only [pT]
 refine tk 1 ?_ ?_ hH ?_
 rotate_left
 ·intro W hS
  go_simp
  try rfl
 simp only [pT]
 refine tk 2 ?_ ?_ hH ?_
 rotate_left
 ·intro W hS
  have c0 := hS.1.cell (i := 0) (v := .int .i64 k.op) rfl
  go_simp
  try rfl
 simp only [pT]
 refine rd 3 (fun K hK => ?_)
 go_simp
 with_reducible refine (hA5.out _ _ hH.2).mono ?_
 rintro e wz ⟨rfl, hwz⟩
 replace hwz := hwz.symm
 subst hwz
 refine hK.out _ _ hH (fun _ => ?_)
 clear hK K
 try simp only [pS]
 refine tk 4 ?_ ?_ hH ?_
 rotate_left
 ·intro W hS
  go_simp
  try rfl
 simp only [pT]
 refine wpAnyH_done (by kernel_rfl) ?_ _
 clear hH
 have bW := Below.refl W.heap.size W
 have b0 := bz
 have pa_lt := F.a.lt
 have pb_lt := F.b.lt
 go_upto_region 26 with fail
 go_wp2_with (first | (with_reducible refine load_inR rfl _ rfl w.heap.size (in16 k) rfl F.i (in16_size _) ?_) | ((with_reducible refine (hS.out _).mono ?_); rintro e w1 ⟨v1, rfl, L1, x1⟩))
 go_ret
 exact ⟨v1, rfl, L1.base b0.size, b0.trans (x1.mono b0.size)⟩
end Go.Proofs.YtcgleggdochbeaaDoor
