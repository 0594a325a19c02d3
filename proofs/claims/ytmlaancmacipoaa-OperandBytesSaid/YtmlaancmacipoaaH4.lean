/- OperandBytes. -/
import Derived.Test.YtmlaancmacipoaaH3
namespace Go.Proofs.Ytmlaancmacipoaa
open Go.RowKit
set_option linter.unusedVariables false
set_option linter.unusedSimpArgs false
set_option linter.unusedSectionVars false
theorem Pg.store {n0 : Nat} {w0 w w' : World} {B N : Nat} {m : Mm} (p : Pg n0 w0 w B m) (k : But [N] w.heap.size w w') (h : B < N) : Pg n0 w0 w' B m :=
  ⟨p.h.but k p.h.lt (by simp; omega), p.ok, p.k.trans (k.mono p.sz (fun x hx => .inr (by simp at hx; have := p.l; omega))), p.l⟩
theorem want_plain {P : Program} {o : Oper} {a : Act} {w : World} {K : Act → World → Prop} {Q : Exit → Act → World → Prop} {ops : Array Oper} (h : o.guard = none) (hw : o.wp P a w K Q) : if Region.wanted o (yielded ops a.tmps) = true then o.wp P a w K Q else K (a.put o.dst undef) w := by
  rw [if_pos (by simp [Region.wanted, h])]
  exact hw
theorem cut_at {P : Program} {c : Code} {Q : Exit → Act → World → Prop} {a : Act} {w : World} (R : Act → Act → World → Prop) (k : ∀ a' w, R a a' w → Q .normal a' w) (h : c.wp P (Nrm (R a)) a w) : c.wp P Q a w :=
  cut_region (R a) k h
set_option maxRecDepth 100000 in
set_option maxHeartbeats 40000000 in
theorem obytes_walk (g : Gs) (hg : g.ok) (j : Nat) (hj : j < 8) (a1 a2 v x : Int) (w1 : 0 ≤ a1 ∧ a1 ≤ 255) (w2 : 0 ≤ a2 ∧ a2 ≤ 255) (hv : 0 ≤ v ∧ v ≤ 4294967295) (hx : 0 ≤ x ∧ x ≤ 4294967295) (e1 : a1 % 8 = j) (w : World) :
    Calls Try.prog 5 #[stV g, .int .u8 a1, .int .u8 a2, .int .u32 v, .int .u32 x] w fun e w' => e = .returned (.bool true) ∧ Below w.heap.size w w' := by
  have b0 := (Below.refl w.heap.size w).alloc (Nat.le_refl _) (.cells (stA g) 44)
  have kS := Blk.new w 44 (stA g)
  have hK := Lib.hid (fun W => oknown W)
  have hNew := Lib.hid (fun W => pNew W)
  have hA : 0 ≤ a2 ∧ a2 < 256 := by omega
  go_enter Try.func5, Try.ntmps5
  go_upto_region 1 with fail
  generalize w.alloc (.cells (stA g) 44) = W0 at *
  go_upto_region 3 with (first | ((with_reducible refine (hK.out _).mono ?_); rintro e W1 ⟨rfl, b1⟩))
  replace kS := kS.below b1 kS.lt
  replace b1 := b0.trans (b1.mono b0.size)
  go_upto_region 4 with (first | ((with_reducible refine (hNew.out _).mono ?_); rintro e W2 ⟨rfl, p2⟩))
  have nB := Lib.hid (show w.heap.size < W1.heap.size from kS.lt)
  replace kS := kS.below p2.done kS.lt
  have Hb := Lib.hid b1
  have HB := Lib.hid b1.size
  clear b0 b1
  generalize hB : W1.heap.size = B at *
  clear hB
  have q2 := Lib.hid (b_map p2)
  go_upto_region 6 with (first | ((with_reducible refine q2.out.mono ?_); rintro e W3 ⟨rfl, p3, b3⟩))
  replace kS := kS.but b3 kS.lt (by have := nB.out; simp; omega)
  clear q2 p2 b3
  go_upto_region 7 with fail
  have kO := Blk.new W3 47 (op6 ⟨3, 0, a2, -1, -1, 1⟩)
  have nO := Lib.hid (show B < W3.heap.size from p3.h.lt)
  replace kS := kS.alloc (.cells (op6 ⟨3, 0, a2, -1, -1, 1⟩) 47)
  have p4 := p3.below ((Below.refl W3.heap.size W3).alloc (Nat.le_refl _) (.cells (op6 ⟨3, 0, a2, -1, -1, 1⟩) 47))
  generalize W3.alloc (.cells (op6 ⟨3, 0, a2, -1, -1, 1⟩) 47) = W4 at *
  generalize W3.heap.size = O at *
  clear p3
  have q4 := Lib.hid (b_write p4 rfl g a2 hA 4 x hx rfl)
  go_upto_region 8 with (first | (with_reducible refine load_st rfl _ rfl w.heap.size (stA g) rfl kS rfl ?_) | (with_reducible refine load_on rfl _ rfl O (op6 ⟨3, 0, a2, -1, -1, 1⟩) rfl kO rfl ?_) | ((with_reducible refine q4.out.mono ?_); rintro e W5 ⟨rfl, p5, b5⟩))
  replace kS := kS.but b5 kS.lt (by have := nB.out; simp; omega)
  replace kO := kO.but b5 kO.lt (by have := nO.out; simp; omega)
  have nT := Lib.hid (show B < W5.heap.size from p5.h.lt)
  have kT := (Blk.new W5 44 (stA g)).alloc (.cells #[.int .i64 0, .int .u32 0, .int .u32 0, .int .i64 0] 32)
  have a5 := ((Below.refl W5.heap.size W5).alloc (Nat.le_refl _) (.cells (stA g) 44)).alloc (by simp) (.cells #[.int .i64 0, .int .u32 0, .int .u32 0, .int .i64 0] 32)
  have nS := Lib.hid (show w.heap.size < W5.heap.size from kS.lt)
  have nOT := Lib.hid (show O < W5.heap.size from kO.lt)
  replace kS := kS.below a5 kS.lt
  replace kO := kO.below a5 kO.lt
  have p6 := p5.below a5
  clear a5 b5 q4 p4 p5
  generalize W5.heap.size = T at *
  generalize (W5.alloc (.cells (stA g) 44)).alloc (.cells #[.int .i64 0, .int .u32 0, .int .u32 0, .int .i64 0] 32) = W6 at *
  have q6 := Lib.hid (b_write p6 (wrote_r _ _ _ _) g a2 hA 1 v hv rfl)
  clear p6
  go_upto_region 9 with (first | (with_reducible refine load_st rfl _ rfl T (stA g) rfl kT rfl ?_) | (with_reducible refine load_on rfl _ rfl O (op6 ⟨3, 0, a2, -1, -1, 1⟩) rfl kO rfl ?_) | ((with_reducible refine q6.out.mono ?_); rintro e W7 ⟨rfl, p7, b7⟩; have kT7 := (kT.but b7 kT.lt (by have := nT.out; simp; omega)).alloc (.cells #[.int .i64 0, .int .u32 0, .int .u32 0, .int .i64 0] 32); have kF7 := Blk.new W7 32 #[.int .i64 0, .int .u32 0, .int .u32 0, .int .i64 0]; have n7 := Lib.hid (show B < W7.heap.size from p7.h.lt); have n7T := Lib.hid (show T < W7.heap.size from Nat.lt_of_lt_of_le kT.lt b7.size)) | ((with_reducible refine store_st rfl _ _ rfl T (stA g) (stA g) rfl rfl kT7 rfl rfl (stA_all _) ?_); intro W8 kT8 b8 s8; have kF8 := kF7.but b8 kF7.lt (by have := n7T.out; simp; omega); have c0 := kF8.cell (i := 0) rfl; have c1 := kF8.cell (i := 1) rfl; have c2 := kF8.cell (i := 2) rfl; have c3 := kF8.cell (i := 3) rfl; have f0 := kF8.fr 0; have f1 := kF8.fr 1; have f2 := kF8.fr 2; have f3 := kF8.fr 3))
  have k8 := (But.refl [W7.heap.size] W8.heap.size W8).stored4 (K := W7.heap.size) (by simp) (.int .i64 0) (.int .u32 0) (.int .u32 0) (.int .i64 0)
  have a7 := (Below.refl W7.heap.size W7).alloc (Nat.le_refl _) (.cells #[.int .i64 0, .int .u32 0, .int .u32 0, .int .i64 0] 32)
  have nSF := Lib.hid (show w.heap.size < W7.heap.size from Nat.lt_of_lt_of_le kS.lt b7.size)
  have nOF := Lib.hid (show O < W7.heap.size from Nat.lt_of_lt_of_le kO.lt b7.size)
  replace kS := (kS.but b7 kS.lt (by have := nB.out; simp; omega)).below a7 nSF.out
  replace kS := kS.but b8 kS.lt (by have := nS.out; simp; omega)
  replace kS := kS.but k8 kS.lt (by have := nSF.out; simp; omega)
  replace kO := (kO.but b7 kO.lt (by have := nO.out; simp; omega)).below a7 nOF.out
  replace kO := kO.but b8 kO.lt (by have := nOT.out; simp; omega)
  replace kO := kO.but k8 kO.lt (by have := nOF.out; simp; omega)
  replace kT := kT8.but k8 kT8.lt (by have := n7T.out; simp; omega)
  have p9 := ((p7.below a7).store b8 nT.out).store k8 n7.out
  clear c0 c1 c2 c3 f0 f1 f2 f3 kF7 kF8 kT7 kT8 b7 b8 s8 k8 a7 q6 p7
  generalize W7.heap.size = F at *
  generalize (((W8.setCell ⟨F, 0, none⟩ (.int .i64 0)).setCell ⟨F, 1, none⟩ (.int .u32 0)).setCell ⟨F, 2, none⟩ (.int .u32 0)).setCell ⟨F, 3, none⟩ (.int .i64 0) = W9 at *
  have q9 := Lib.hid (b_read a2 hA hx p9 g)
  clear p9
  go_upto_region 10 with (first | (with_reducible refine load_st rfl _ rfl T (stA g) rfl kT rfl ?_) | (with_reducible refine load_on rfl _ rfl O (op6 ⟨3, 0, a2, -1, -1, 1⟩) rfl kO rfl ?_) | ((with_reducible refine q9.out.mono ?_); rintro e W10 ⟨rfl, p10, b10⟩))
  have a11 := b10.alloc b10.size (.cells #[.int .i64 0, .int .u32 0, .int .u32 0, .int .i64 0] 32)
  replace kS := kS.below a11 kS.lt
  replace kT := kT.below a11 kT.lt
  have p11 := p10.below ((Below.refl W10.heap.size W10).alloc (Nat.le_refl _) (.cells #[.int .i64 0, .int .u32 0, .int .u32 0, .int .i64 0] 32))
  clear kO nO nOF nOT nSF q9 p10 b10 a11 n7 n7T
  generalize W10.alloc (.cells #[.int .i64 0, .int .u32 0, .int .u32 0, .int .i64 0] 32) = W11 at *
  generalize W10.heap.size = F2 at *
  generalize mB a2.toNat x v = M at *
  refine cut_at (fun a a' w' => ∃ N1 N2, a' = (((((((((((((((a.put (some 69) (mp B)).put (some 70) (stV g)).put (some 71) (.int .u8 a1)).put (some 72) (.int .u8 (j : Int))).put (some 73) (.int .i64 (j : Int))).put (some 74) (opV ⟨1, j, 0, 0, 0, 0⟩)).put (some 75) (.int .u32 v)).put (some 76) (.tuple #[stV (setb g j v), fltV 0 0 0 0, .bool true])).put (some 68) (.tuple #[stV (setb g j v), fltV 0 0 0 0, .bool true])).put (some 77) (stV (setb g j v))).put (some 78) (fltV 0 0 0 0)).put (some 79) (.bool true)).put (some 21) (.pointer (some ⟨N1, 0, none⟩))).put (some 22) (.pointer (some ⟨N2, 0, none⟩))).put (some 23) (.bool true)) ∧ Blk w' w.heap.size 44 (stA g) ∧ Blk w' N1 44 (stA (setb g j v)) ∧ Pg B W1 w' B M ∧ B < N1 ∧ w.heap.size < N1) ?_ ?_
  rotate_left
  · have hR := Lib.hid (fun W => reg_b (j : Int) W)
    refine wp_region_held_drew (S := fun V => Blk V T 44 (stA g)) (by kernel_rfl) kT.drew (fun hH => ?_)
    replace kS := kS.drew
    have p := p11.below (Below.refl W11.heap.size W11).drew
    clear kT p11 hK hNew hA Hb HB hx w2
    generalize W11.drew = W at *
    refine wpAnyH_take (i := 0) (v := ?_) rfl (by kernel_rfl) (by kernel_rfl) (by kernel_rfl) (fun _ _ _ h => h) (Or.inl ⟨by kernel_rfl, ?_⟩) hH ?_
    rotate_left
    · intro W hS
      go_simp
      try rfl
    try simp only [Act.put, List.setIfInBounds_toArray, List.set_cons_zero, List.set_cons_succ, List.getElem_toArray, List.getElem_cons_succ, List.getElem_cons_zero]
    refine wpAnyH_take (i := 1) (v := stV g) rfl (by kernel_rfl) (by kernel_rfl) (by kernel_rfl) (fun _ _ _ h => h) (Or.inl ⟨by kernel_rfl, ?_⟩) hH ?_
    · intro W hS
      exact run_load_row (by rfl) (by rfl) 44 _ (0, 0) _ hS.h Try.underlying44 rfl szS
    try simp only [Act.put, List.setIfInBounds_toArray, List.set_cons_zero, List.set_cons_succ, List.getElem_toArray, List.getElem_cons_succ, List.getElem_cons_zero]
    refine wpAnyH_take (i := 2) (v := ?_) rfl (by kernel_rfl) (by kernel_rfl) (by kernel_rfl) (fun _ _ _ h => h) (Or.inl ⟨by kernel_rfl, ?_⟩) hH ?_
    rotate_left
    · intro W hS
      go_simp
      try rfl
    try simp only [Act.put, List.setIfInBounds_toArray, List.set_cons_zero, List.set_cons_succ, List.getElem_toArray, List.getElem_cons_succ, List.getElem_cons_zero]
    refine wpAnyH_take (i := 3) (v := .int .u8 (j : Int)) rfl (by kernel_rfl) (by kernel_rfl) (by kernel_rfl) (fun _ _ _ h => h) (Or.inl ⟨by kernel_rfl, ?_⟩) hH ?_
    · intro W hS
      go_simp
      rw [Int.tmod_eq_emod_of_nonneg w1.1, e1]
    try simp only [Act.put, List.setIfInBounds_toArray, List.set_cons_zero, List.set_cons_succ, List.getElem_toArray, List.getElem_cons_succ, List.getElem_cons_zero]
    refine wpAnyH_take (i := 4) (v := .int .i64 (j : Int)) rfl (by kernel_rfl) (by kernel_rfl) (by kernel_rfl) (fun _ _ _ h => h) (Or.inl ⟨by kernel_rfl, ?_⟩) hH ?_
    · intro W hS
      go_simp
      rw [IntKind.wrap_i64]
      omega
    try simp only [Act.put, List.setIfInBounds_toArray, List.set_cons_zero, List.set_cons_succ, List.getElem_toArray, List.getElem_cons_succ, List.getElem_cons_zero]
    refine wpAnyH_take (i := 6) (v := ?_) rfl (by kernel_rfl) (by kernel_rfl) (by kernel_rfl) (fun _ _ _ h => h) (Or.inl ⟨by kernel_rfl, ?_⟩) hH ?_
    rotate_left
    · intro W hS
      go_simp
      try rfl
    try simp only [Act.put, List.setIfInBounds_toArray, List.set_cons_zero, List.set_cons_succ, List.getElem_toArray, List.getElem_cons_succ, List.getElem_cons_zero]
    refine wpAnyH_ready (rs := [5, 12, 13]) (by kernel_rfl) (by simp) ?_
    refine AllReadyH.cons rfl (fun K hK => ?_) (AllReadyH.cons rfl (fun K hK => ?_) (AllReadyH.cons rfl (fun K hK => ?_) AllReadyH.nil))
    · go_simp
      with_reducible refine (hR.out _).mono ?_
      rintro e Wx1 ⟨rfl, bx⟩
      replace kS := kS.below bx kS.lt
      replace hH := hH.below bx hH.lt
      replace p := p.below bx
      clear bx
      refine hK.out _ _ hH (fun _ => ?_)
      clear hK K
      try simp only [Act.put, List.setIfInBounds_toArray, List.set_cons_zero, List.set_cons_succ, List.getElem_toArray, List.getElem_cons_succ, List.getElem_cons_zero]
      refine wpAnyH_ready (rs := [7, 12, 13]) (by kernel_rfl) (by simp) ?_
      refine AllReadyH.cons rfl (fun K hK => ?_) (AllReadyH.cons rfl (fun K hK => ?_) (AllReadyH.cons rfl (fun K hK => ?_) AllReadyH.nil))
      · go_simp
        with_reducible refine (b_set p g hg hj v hv).mono ?_
        clear p
        rintro e Wx2 ⟨rfl, p, bx⟩
        replace kS := kS.but bx kS.lt (by have := nB.out; simp; omega)
        replace hH := hH.but bx hH.lt (by have := nT.out; simp; omega)
        clear bx
        refine hK.out _ _ hH (fun _ => ?_)
        clear hK K
        try simp only [Act.put, List.setIfInBounds_toArray, List.set_cons_zero, List.set_cons_succ, List.getElem_toArray, List.getElem_cons_succ, List.getElem_cons_zero]
        refine wpAnyH_take (i := 8) (v := .tuple #[stV (setb g j v), fltV 0 0 0 0, .bool true]) rfl (by kernel_rfl) (by kernel_rfl) (by kernel_rfl) (fun _ _ _ h => h) (Or.inl ⟨by kernel_rfl, ?_⟩) hH ?_
        · intro W hS
          go_simp
          try rfl
        try simp only [Act.put, List.setIfInBounds_toArray, List.set_cons_zero, List.set_cons_succ, List.getElem_toArray, List.getElem_cons_succ, List.getElem_cons_zero]
        refine wpAnyH_take (i := 9) (v := stV (setb g j v)) rfl (by kernel_rfl) (by kernel_rfl) (by kernel_rfl) (fun _ _ _ h => h) (Or.inl ⟨by kernel_rfl, ?_⟩) hH ?_
        · intro W hS
          go_simp
          try rfl
        try simp only [Act.put, List.setIfInBounds_toArray, List.set_cons_zero, List.set_cons_succ, List.getElem_toArray, List.getElem_cons_succ, List.getElem_cons_zero]
        refine wpAnyH_take (i := 10) (v := fltV 0 0 0 0) rfl (by kernel_rfl) (by kernel_rfl) (by kernel_rfl) (fun _ _ _ h => h) (Or.inl ⟨by kernel_rfl, ?_⟩) hH ?_
        · intro W hS
          go_simp
          try rfl
        try simp only [Act.put, List.setIfInBounds_toArray, List.set_cons_zero, List.set_cons_succ, List.getElem_toArray, List.getElem_cons_succ, List.getElem_cons_zero]
        refine wpAnyH_take (i := 11) (v := .bool true) rfl (by kernel_rfl) (by kernel_rfl) (by kernel_rfl) (fun _ _ _ h => h) (Or.inl ⟨by kernel_rfl, ?_⟩) hH ?_
        · intro W hS
          go_simp
          try rfl
        try simp only [Act.put, List.setIfInBounds_toArray, List.set_cons_zero, List.set_cons_succ, List.getElem_toArray, List.getElem_cons_succ, List.getElem_cons_zero]
        refine wpAnyH_ready (rs := [12, 13]) (by kernel_rfl) (by simp) ?_
        refine AllReadyH.cons rfl (fun K hK => ?_) (AllReadyH.cons rfl (fun K hK => ?_) AllReadyH.nil)
        · go_simp
          have kU := Blk.new Wx2 44 #[.int .u32 0, .int .u32 0, .int .u32 0, .int .u32 0, .int .u32 0, .int .u32 0, .int .u32 0, .int .u32 0, .int .u32 0, .bool false, .bool false, .bool false, .bool false, .bool false, .bool false, .bool false, .int .u64 0]
          have nU := Lib.hid (show B < Wx2.heap.size from p.h.lt)
          have mU := Lib.hid (show w.heap.size < Wx2.heap.size from kS.lt)
          have tU := Lib.hid (show T < Wx2.heap.size from hH.lt)
          have bx := (Below.refl Wx2.heap.size Wx2).alloc (Nat.le_refl _) (.cells #[.int .u32 0, .int .u32 0, .int .u32 0, .int .u32 0, .int .u32 0, .int .u32 0, .int .u32 0, .int .u32 0, .int .u32 0, .bool false, .bool false, .bool false, .bool false, .bool false, .bool false, .bool false, .int .u64 0] 44)
          replace kS := kS.below bx kS.lt
          replace hH := hH.below bx hH.lt
          replace p := p.below bx
          clear bx
          generalize Wx2.alloc (.cells #[.int .u32 0, .int .u32 0, .int .u32 0, .int .u32 0, .int .u32 0, .int .u32 0, .int .u32 0, .int .u32 0, .int .u32 0, .bool false, .bool false, .bool false, .bool false, .bool false, .bool false, .bool false, .int .u64 0] 44) = Wx3 at *
          generalize Wx2.heap.size = N1 at *
          refine hK.out _ _ hH (fun _ => ?_)
          clear hK K
          try simp only [Act.put, List.setIfInBounds_toArray, List.set_cons_zero, List.set_cons_succ, List.getElem_toArray, List.getElem_cons_succ, List.getElem_cons_zero]
          refine wpAnyH_ready (rs := [13]) (by kernel_rfl) (by simp) ?_
          refine AllReadyH.cons rfl (fun K hK => ?_) AllReadyH.nil
          go_simp
          have kF := Blk.new Wx3 32 #[.int .i64 0, .int .u32 0, .int .u32 0, .int .i64 0]
          have nF := Lib.hid (show B < Wx3.heap.size from p.h.lt)
          have mF := Lib.hid (show w.heap.size < Wx3.heap.size from kS.lt)
          have tF := Lib.hid (show T < Wx3.heap.size from hH.lt)
          have uf := Lib.hid (show N1 ≠ Wx3.heap.size from Nat.ne_of_lt kU.lt)
          have bx := (Below.refl Wx3.heap.size Wx3).alloc (Nat.le_refl _) (.cells #[.int .i64 0, .int .u32 0, .int .u32 0, .int .i64 0] 32)
          replace kS := kS.below bx kS.lt
          replace hH := hH.below bx hH.lt
          replace kU := kU.below bx kU.lt
          replace p := p.below bx
          clear bx
          generalize Wx3.alloc (.cells #[.int .i64 0, .int .u32 0, .int .u32 0, .int .i64 0] 32) = Wx4 at *
          generalize Wx3.heap.size = N2 at *
          refine hK.out _ _ hH (fun _ => ?_)
          clear hK K
          try simp only [Act.put, List.setIfInBounds_toArray, List.set_cons_zero, List.set_cons_succ, List.getElem_toArray, List.getElem_cons_succ, List.getElem_cons_zero]
          refine wpAnyH_ready (rs := [14]) (by kernel_rfl) (by simp) ?_
          refine AllReadyH.cons rfl (fun K hK => ?_) AllReadyH.nil
          refine want_plain rfl ?_
          refine wp_store_row _ _ _ rfl N1 (stA (setb g j v)) rfl rfl 44 #[.int .u32 0, .int .u32 0, .int .u32 0, .int .u32 0, .int .u32 0, .int .u32 0, .int .u32 0, .int .u32 0, .int .u32 0, .bool false, .bool false, .bool false, .bool false, .bool false, .bool false, .bool false, .int .u64 0] kU.h szS rfl (stA_all _) ?_
          have bx := (But.refl [N1] Wx4.heap.size Wx4).setRow (g := N1) (by simp) (stA (setb g j v))
          replace kU := kU.row (stA (setb g j v))
          replace kS := kS.but bx kS.lt (by have := mU.out; simp; omega)
          replace hH := hH.but bx hH.lt (by have := tU.out; simp; omega)
          replace kF := kF.but bx kF.lt (by have := uf.out; simp; omega)
          replace p := p.store bx nU.out
          clear bx
          generalize Wx4.setRow N1 (stA (setb g j v)) = Wx5 at *
          refine hK.out _ _ hH (fun _ => ?_)
          clear hK K
          try simp only [Act.put, List.setIfInBounds_toArray, List.set_cons_zero, List.set_cons_succ, List.getElem_toArray, List.getElem_cons_succ, List.getElem_cons_zero]
          refine wpAnyH_ready (rs := [15]) (by kernel_rfl) (by simp) ?_
          refine AllReadyH.cons rfl (fun K hK => ?_) AllReadyH.nil
          refine want_plain rfl ?_
          refine wp_store_row _ _ _ rfl N2 #[.int .i64 0, .int .u32 0, .int .u32 0, .int .i64 0] rfl rfl 32 #[.int .i64 0, .int .u32 0, .int .u32 0, .int .i64 0] kF.h szF rfl (by simp [Value.oneCell']) ?_
          have bx := (But.refl [N2] Wx5.heap.size Wx5).setRow (g := N2) (by simp) #[.int .i64 0, .int .u32 0, .int .u32 0, .int .i64 0]
          clear kF
          replace kS := kS.but bx kS.lt (by have := mF.out; simp; omega)
          replace hH := hH.but bx hH.lt (by have := tF.out; simp; omega)
          replace kU := kU.but bx kU.lt (by have := uf.out; simp; omega)
          replace p := p.store bx nF.out
          clear bx
          generalize Wx5.setRow N2 #[.int .i64 0, .int .u32 0, .int .u32 0, .int .i64 0] = Wx6 at *
          refine hK.out _ _ hH (fun _ => ?_)
          clear hK K
          try simp only [Act.put, List.setIfInBounds_toArray, List.set_cons_zero, List.set_cons_succ, List.getElem_toArray, List.getElem_cons_succ, List.getElem_cons_zero]
          refine wpAnyH_take (i := 16) (v := ?_) rfl (by kernel_rfl) (by kernel_rfl) (by kernel_rfl) (fun _ _ _ h => h) (Or.inl ⟨by kernel_rfl, ?_⟩) hH ?_
          rotate_left
          · intro W hS
            go_simp
            try rfl
          try simp only [Act.put, List.setIfInBounds_toArray, List.set_cons_zero, List.set_cons_succ, List.getElem_toArray, List.getElem_cons_succ, List.getElem_cons_zero]
          refine wpAnyH_done (by kernel_rfl) ?_ _
          exact ⟨N1, N2, by kernel_rfl, kS, kU, p, nU.out, mU.out⟩
        · go_simp
          have kF := Blk.new Wx2 32 #[.int .i64 0, .int .u32 0, .int .u32 0, .int .i64 0]
          have nF := Lib.hid (show B < Wx2.heap.size from p.h.lt)
          have mF := Lib.hid (show w.heap.size < Wx2.heap.size from kS.lt)
          have tF := Lib.hid (show T < Wx2.heap.size from hH.lt)
          have bx := (Below.refl Wx2.heap.size Wx2).alloc (Nat.le_refl _) (.cells #[.int .i64 0, .int .u32 0, .int .u32 0, .int .i64 0] 32)
          replace kS := kS.below bx kS.lt
          replace hH := hH.below bx hH.lt
          replace p := p.below bx
          clear bx
          generalize Wx2.alloc (.cells #[.int .i64 0, .int .u32 0, .int .u32 0, .int .i64 0] 32) = Wx3 at *
          generalize Wx2.heap.size = N2 at *
          refine hK.out _ _ hH (fun _ => ?_)
          clear hK K
          try simp only [Act.put, List.setIfInBounds_toArray, List.set_cons_zero, List.set_cons_succ, List.getElem_toArray, List.getElem_cons_succ, List.getElem_cons_zero]
          refine wpAnyH_ready (rs := [12]) (by kernel_rfl) (by simp) ?_
          refine AllReadyH.cons rfl (fun K hK => ?_) AllReadyH.nil
          go_simp
          have kU := Blk.new Wx3 44 #[.int .u32 0, .int .u32 0, .int .u32 0, .int .u32 0, .int .u32 0, .int .u32 0, .int .u32 0, .int .u32 0, .int .u32 0, .bool false, .bool false, .bool false, .bool false, .bool false, .bool false, .bool false, .int .u64 0]
          have nU := Lib.hid (show B < Wx3.heap.size from p.h.lt)
          have mU := Lib.hid (show w.heap.size < Wx3.heap.size from kS.lt)
          have tU := Lib.hid (show T < Wx3.heap.size from hH.lt)
          have uf := Lib.hid (show N2 ≠ Wx3.heap.size from Nat.ne_of_lt kF.lt)
          have bx := (Below.refl Wx3.heap.size Wx3).alloc (Nat.le_refl _) (.cells #[.int .u32 0, .int .u32 0, .int .u32 0, .int .u32 0, .int .u32 0, .int .u32 0, .int .u32 0, .int .u32 0, .int .u32 0, .bool false, .bool false, .bool false, .bool false, .bool false, .bool false, .bool false, .int .u64 0] 44)
          replace kS := kS.below bx kS.lt
          replace hH := hH.below bx hH.lt
          replace kF := kF.below bx kF.lt
          replace p := p.below bx
          clear bx
          generalize Wx3.alloc (.cells #[.int .u32 0, .int .u32 0, .int .u32 0, .int .u32 0, .int .u32 0, .int .u32 0, .int .u32 0, .int .u32 0, .int .u32 0, .bool false, .bool false, .bool false, .bool false, .bool false, .bool false, .bool false, .int .u64 0] 44) = Wx4 at *
          generalize Wx3.heap.size = N1 at *
          refine hK.out _ _ hH (fun _ => ?_)
          clear hK K
          try simp only [Act.put, List.setIfInBounds_toArray, List.set_cons_zero, List.set_cons_succ, List.getElem_toArray, List.getElem_cons_succ, List.getElem_cons_zero]
          refine wpAnyH_ready (rs := [14]) (by kernel_rfl) (by simp) ?_
          refine AllReadyH.cons rfl (fun K hK => ?_) AllReadyH.nil
          refine want_plain rfl ?_
          refine wp_store_row _ _ _ rfl N1 (stA (setb g j v)) rfl rfl 44 #[.int .u32 0, .int .u32 0, .int .u32 0, .int .u32 0, .int .u32 0, .int .u32 0, .int .u32 0, .int .u32 0, .int .u32 0, .bool false, .bool false, .bool false, .bool false, .bool false, .bool false, .bool false, .int .u64 0] kU.h szS rfl (stA_all _) ?_
          have bx := (But.refl [N1] Wx4.heap.size Wx4).setRow (g := N1) (by simp) (stA (setb g j v))
          replace kU := kU.row (stA (setb g j v))
          replace kS := kS.but bx kS.lt (by have := mU.out; simp; omega)
          replace hH := hH.but bx hH.lt (by have := tU.out; simp; omega)
          replace kF := kF.but bx kF.lt (by have := uf.out; simp; omega)
          replace p := p.store bx nU.out
          clear bx
          generalize Wx4.setRow N1 (stA (setb g j v)) = Wx5 at *
          refine hK.out _ _ hH (fun _ => ?_)
          clear hK K
          try simp only [Act.put, List.setIfInBounds_toArray, List.set_cons_zero, List.set_cons_succ, List.getElem_toArray, List.getElem_cons_succ, List.getElem_cons_zero]
          refine wpAnyH_ready (rs := [15]) (by kernel_rfl) (by simp) ?_
          refine AllReadyH.cons rfl (fun K hK => ?_) AllReadyH.nil
          refine want_plain rfl ?_
          refine wp_store_row _ _ _ rfl N2 #[.int .i64 0, .int .u32 0, .int .u32 0, .int .i64 0] rfl rfl 32 #[.int .i64 0, .int .u32 0, .int .u32 0, .int .i64 0] kF.h szF rfl (by simp [Value.oneCell']) ?_
          have bx := (But.refl [N2] Wx5.heap.size Wx5).setRow (g := N2) (by simp) #[.int .i64 0, .int .u32 0, .int .u32 0, .int .i64 0]
          clear kF
          replace kS := kS.but bx kS.lt (by have := mF.out; simp; omega)
          replace hH := hH.but bx hH.lt (by have := tF.out; simp; omega)
          replace kU := kU.but bx kU.lt (by have := uf.out; simp; omega)
          replace p := p.store bx nF.out
          clear bx
          generalize Wx5.setRow N2 #[.int .i64 0, .int .u32 0, .int .u32 0, .int .i64 0] = Wx6 at *
          refine hK.out _ _ hH (fun _ => ?_)
          clear hK K
          try simp only [Act.put, List.setIfInBounds_toArray, List.set_cons_zero, List.set_cons_succ, List.getElem_toArray, List.getElem_cons_succ, List.getElem_cons_zero]
          refine wpAnyH_take (i := 16) (v := ?_) rfl (by kernel_rfl) (by kernel_rfl) (by kernel_rfl) (fun _ _ _ h => h) (Or.inl ⟨by kernel_rfl, ?_⟩) hH ?_
          rotate_left
          · intro W hS
            go_simp
            try rfl
          try simp only [Act.put, List.setIfInBounds_toArray, List.set_cons_zero, List.set_cons_succ, List.getElem_toArray, List.getElem_cons_succ, List.getElem_cons_zero]
          refine wpAnyH_done (by kernel_rfl) ?_ _
          exact ⟨N1, N2, by kernel_rfl, kS, kU, p, nU.out, mU.out⟩
      · go_simp
        have kU := Blk.new Wx1 44 #[.int .u32 0, .int .u32 0, .int .u32 0, .int .u32 0, .int .u32 0, .int .u32 0, .int .u32 0, .int .u32 0, .int .u32 0, .bool false, .bool false, .bool false, .bool false, .bool false, .bool false, .bool false, .int .u64 0]
        have nU := Lib.hid (show B < Wx1.heap.size from p.h.lt)
        have mU := Lib.hid (show w.heap.size < Wx1.heap.size from kS.lt)
        have tU := Lib.hid (show T < Wx1.heap.size from hH.lt)
        have bx := (Below.refl Wx1.heap.size Wx1).alloc (Nat.le_refl _) (.cells #[.int .u32 0, .int .u32 0, .int .u32 0, .int .u32 0, .int .u32 0, .int .u32 0, .int .u32 0, .int .u32 0, .int .u32 0, .bool false, .bool false, .bool false, .bool false, .bool false, .bool false, .bool false, .int .u64 0] 44)
        replace kS := kS.below bx kS.lt
        replace hH := hH.below bx hH.lt
        replace p := p.below bx
        clear bx
        generalize Wx1.alloc (.cells #[.int .u32 0, .int .u32 0, .int .u32 0, .int .u32 0, .int .u32 0, .int .u32 0, .int .u32 0, .int .u32 0, .int .u32 0, .bool false, .bool false, .bool false, .bool false, .bool false, .bool false, .bool false, .int .u64 0] 44) = Wx2 at *
        generalize Wx1.heap.size = N1 at *
        refine hK.out _ _ hH (fun _ => ?_)
        clear hK K
        try simp only [Act.put, List.setIfInBounds_toArray, List.set_cons_zero, List.set_cons_succ, List.getElem_toArray, List.getElem_cons_succ, List.getElem_cons_zero]
        refine wpAnyH_ready (rs := [7, 13]) (by kernel_rfl) (by simp) ?_
        refine AllReadyH.cons rfl (fun K hK => ?_) (AllReadyH.cons rfl (fun K hK => ?_) AllReadyH.nil)
        · go_simp
          with_reducible refine (b_set p g hg hj v hv).mono ?_
          clear p
          rintro e Wx3 ⟨rfl, p, bx⟩
          replace kS := kS.but bx kS.lt (by have := nB.out; simp; omega)
          replace hH := hH.but bx hH.lt (by have := nT.out; simp; omega)
          replace kU := kU.but bx kU.lt (by have := nU.out; simp; omega)
          clear bx
          refine hK.out _ _ hH (fun _ => ?_)
          clear hK K
          try simp only [Act.put, List.setIfInBounds_toArray, List.set_cons_zero, List.set_cons_succ, List.getElem_toArray, List.getElem_cons_succ, List.getElem_cons_zero]
          refine wpAnyH_take (i := 8) (v := .tuple #[stV (setb g j v), fltV 0 0 0 0, .bool true]) rfl (by kernel_rfl) (by kernel_rfl) (by kernel_rfl) (fun _ _ _ h => h) (Or.inl ⟨by kernel_rfl, ?_⟩) hH ?_
          · intro W hS
            go_simp
            try rfl
          try simp only [Act.put, List.setIfInBounds_toArray, List.set_cons_zero, List.set_cons_succ, List.getElem_toArray, List.getElem_cons_succ, List.getElem_cons_zero]
          refine wpAnyH_take (i := 9) (v := stV (setb g j v)) rfl (by kernel_rfl) (by kernel_rfl) (by kernel_rfl) (fun _ _ _ h => h) (Or.inl ⟨by kernel_rfl, ?_⟩) hH ?_
          · intro W hS
            go_simp
            try rfl
          try simp only [Act.put, List.setIfInBounds_toArray, List.set_cons_zero, List.set_cons_succ, List.getElem_toArray, List.getElem_cons_succ, List.getElem_cons_zero]
          refine wpAnyH_take (i := 10) (v := fltV 0 0 0 0) rfl (by kernel_rfl) (by kernel_rfl) (by kernel_rfl) (fun _ _ _ h => h) (Or.inl ⟨by kernel_rfl, ?_⟩) hH ?_
          · intro W hS
            go_simp
            try rfl
          try simp only [Act.put, List.setIfInBounds_toArray, List.set_cons_zero, List.set_cons_succ, List.getElem_toArray, List.getElem_cons_succ, List.getElem_cons_zero]
          refine wpAnyH_take (i := 11) (v := .bool true) rfl (by kernel_rfl) (by kernel_rfl) (by kernel_rfl) (fun _ _ _ h => h) (Or.inl ⟨by kernel_rfl, ?_⟩) hH ?_
          · intro W hS
            go_simp
            try rfl
          try simp only [Act.put, List.setIfInBounds_toArray, List.set_cons_zero, List.set_cons_succ, List.getElem_toArray, List.getElem_cons_succ, List.getElem_cons_zero]
          refine wpAnyH_ready (rs := [13]) (by kernel_rfl) (by simp) ?_
          refine AllReadyH.cons rfl (fun K hK => ?_) AllReadyH.nil
          go_simp
          have kF := Blk.new Wx3 32 #[.int .i64 0, .int .u32 0, .int .u32 0, .int .i64 0]
          have nF := Lib.hid (show B < Wx3.heap.size from p.h.lt)
          have mF := Lib.hid (show w.heap.size < Wx3.heap.size from kS.lt)
          have tF := Lib.hid (show T < Wx3.heap.size from hH.lt)
          have uf := Lib.hid (show N1 ≠ Wx3.heap.size from Nat.ne_of_lt kU.lt)
          have bx := (Below.refl Wx3.heap.size Wx3).alloc (Nat.le_refl _) (.cells #[.int .i64 0, .int .u32 0, .int .u32 0, .int .i64 0] 32)
          replace kS := kS.below bx kS.lt
          replace hH := hH.below bx hH.lt
          replace kU := kU.below bx kU.lt
          replace p := p.below bx
          clear bx
          generalize Wx3.alloc (.cells #[.int .i64 0, .int .u32 0, .int .u32 0, .int .i64 0] 32) = Wx4 at *
          generalize Wx3.heap.size = N2 at *
          refine hK.out _ _ hH (fun _ => ?_)
          clear hK K
          try simp only [Act.put, List.setIfInBounds_toArray, List.set_cons_zero, List.set_cons_succ, List.getElem_toArray, List.getElem_cons_succ, List.getElem_cons_zero]
          refine wpAnyH_ready (rs := [14]) (by kernel_rfl) (by simp) ?_
          refine AllReadyH.cons rfl (fun K hK => ?_) AllReadyH.nil
          refine want_plain rfl ?_
          refine wp_store_row _ _ _ rfl N1 (stA (setb g j v)) rfl rfl 44 #[.int .u32 0, .int .u32 0, .int .u32 0, .int .u32 0, .int .u32 0, .int .u32 0, .int .u32 0, .int .u32 0, .int .u32 0, .bool false, .bool false, .bool false, .bool false, .bool false, .bool false, .bool false, .int .u64 0] kU.h szS rfl (stA_all _) ?_
          have bx := (But.refl [N1] Wx4.heap.size Wx4).setRow (g := N1) (by simp) (stA (setb g j v))
          replace kU := kU.row (stA (setb g j v))
          replace kS := kS.but bx kS.lt (by have := mU.out; simp; omega)
          replace hH := hH.but bx hH.lt (by have := tU.out; simp; omega)
          replace kF := kF.but bx kF.lt (by have := uf.out; simp; omega)
          replace p := p.store bx nU.out
          clear bx
          generalize Wx4.setRow N1 (stA (setb g j v)) = Wx5 at *
          refine hK.out _ _ hH (fun _ => ?_)
          clear hK K
          try simp only [Act.put, List.setIfInBounds_toArray, List.set_cons_zero, List.set_cons_succ, List.getElem_toArray, List.getElem_cons_succ, List.getElem_cons_zero]
          refine wpAnyH_ready (rs := [15]) (by kernel_rfl) (by simp) ?_
          refine AllReadyH.cons rfl (fun K hK => ?_) AllReadyH.nil
          refine want_plain rfl ?_
          refine wp_store_row _ _ _ rfl N2 #[.int .i64 0, .int .u32 0, .int .u32 0, .int .i64 0] rfl rfl 32 #[.int .i64 0, .int .u32 0, .int .u32 0, .int .i64 0] kF.h szF rfl (by simp [Value.oneCell']) ?_
          have bx := (But.refl [N2] Wx5.heap.size Wx5).setRow (g := N2) (by simp) #[.int .i64 0, .int .u32 0, .int .u32 0, .int .i64 0]
          clear kF
          replace kS := kS.but bx kS.lt (by have := mF.out; simp; omega)
          replace hH := hH.but bx hH.lt (by have := tF.out; simp; omega)
          replace kU := kU.but bx kU.lt (by have := uf.out; simp; omega)
          replace p := p.store bx nF.out
          clear bx
          generalize Wx5.setRow N2 #[.int .i64 0, .int .u32 0, .int .u32 0, .int .i64 0] = Wx6 at *
          refine hK.out _ _ hH (fun _ => ?_)
          clear hK K
          try simp only [Act.put, List.setIfInBounds_toArray, List.set_cons_zero, List.set_cons_succ, List.getElem_toArray, List.getElem_cons_succ, List.getElem_cons_zero]
          refine wpAnyH_take (i := 16) (v := ?_) rfl (by kernel_rfl) (by kernel_rfl) (by kernel_rfl) (fun _ _ _ h => h) (Or.inl ⟨by kernel_rfl, ?_⟩) hH ?_
          rotate_left
          · intro W hS
            go_simp
            try rfl
          try simp only [Act.put, List.setIfInBounds_toArray, List.set_cons_zero, List.set_cons_succ, List.getElem_toArray, List.getElem_cons_succ, List.getElem_cons_zero]
          refine wpAnyH_done (by kernel_rfl) ?_ _
          exact ⟨N1, N2, by kernel_rfl, kS, kU, p, nU.out, mU.out⟩
        · go_simp
          have kF := Blk.new Wx2 32 #[.int .i64 0, .int .u32 0, .int .u32 0, .int .i64 0]
          have nF := Lib.hid (show B < Wx2.heap.size from p.h.lt)
          have mF := Lib.hid (show w.heap.size < Wx2.heap.size from kS.lt)
          have tF := Lib.hid (show T < Wx2.heap.size from hH.lt)
          have uf := Lib.hid (show N1 ≠ Wx2.heap.size from Nat.ne_of_lt kU.lt)
          have bx := (Below.refl Wx2.heap.size Wx2).alloc (Nat.le_refl _) (.cells #[.int .i64 0, .int .u32 0, .int .u32 0, .int .i64 0] 32)
          replace kS := kS.below bx kS.lt
          replace hH := hH.below bx hH.lt
          replace kU := kU.below bx kU.lt
          replace p := p.below bx
          clear bx
          generalize Wx2.alloc (.cells #[.int .i64 0, .int .u32 0, .int .u32 0, .int .i64 0] 32) = Wx3 at *
          generalize Wx2.heap.size = N2 at *
          refine hK.out _ _ hH (fun _ => ?_)
          clear hK K
          try simp only [Act.put, List.setIfInBounds_toArray, List.set_cons_zero, List.set_cons_succ, List.getElem_toArray, List.getElem_cons_succ, List.getElem_cons_zero]
          refine wpAnyH_ready (rs := [7]) (by kernel_rfl) (by simp) ?_
          refine AllReadyH.cons rfl (fun K hK => ?_) AllReadyH.nil
          go_simp
          with_reducible refine (b_set p g hg hj v hv).mono ?_
          clear p
          rintro e Wx4 ⟨rfl, p, bx⟩
          replace kS := kS.but bx kS.lt (by have := nB.out; simp; omega)
          replace hH := hH.but bx hH.lt (by have := nT.out; simp; omega)
          replace kU := kU.but bx kU.lt (by have := nU.out; simp; omega)
          replace kF := kF.but bx kF.lt (by have := nF.out; simp; omega)
          clear bx
          refine hK.out _ _ hH (fun _ => ?_)
          clear hK K
          try simp only [Act.put, List.setIfInBounds_toArray, List.set_cons_zero, List.set_cons_succ, List.getElem_toArray, List.getElem_cons_succ, List.getElem_cons_zero]
          refine wpAnyH_take (i := 8) (v := .tuple #[stV (setb g j v), fltV 0 0 0 0, .bool true]) rfl (by kernel_rfl) (by kernel_rfl) (by kernel_rfl) (fun _ _ _ h => h) (Or.inl ⟨by kernel_rfl, ?_⟩) hH ?_
          · intro W hS
            go_simp
            try rfl
          try simp only [Act.put, List.setIfInBounds_toArray, List.set_cons_zero, List.set_cons_succ, List.getElem_toArray, List.getElem_cons_succ, List.getElem_cons_zero]
          refine wpAnyH_take (i := 9) (v := stV (setb g j v)) rfl (by kernel_rfl) (by kernel_rfl) (by kernel_rfl) (fun _ _ _ h => h) (Or.inl ⟨by kernel_rfl, ?_⟩) hH ?_
          · intro W hS
            go_simp
            try rfl
          try simp only [Act.put, List.setIfInBounds_toArray, List.set_cons_zero, List.set_cons_succ, List.getElem_toArray, List.getElem_cons_succ, List.getElem_cons_zero]
          refine wpAnyH_take (i := 10) (v := fltV 0 0 0 0) rfl (by kernel_rfl) (by kernel_rfl) (by kernel_rfl) (fun _ _ _ h => h) (Or.inl ⟨by kernel_rfl, ?_⟩) hH ?_
          · intro W hS
            go_simp
            try rfl
          try simp only [Act.put, List.setIfInBounds_toArray, List.set_cons_zero, List.set_cons_succ, List.getElem_toArray, List.getElem_cons_succ, List.getElem_cons_zero]
          refine wpAnyH_take (i := 11) (v := .bool true) rfl (by kernel_rfl) (by kernel_rfl) (by kernel_rfl) (fun _ _ _ h => h) (Or.inl ⟨by kernel_rfl, ?_⟩) hH ?_
          · intro W hS
            go_simp
            try rfl
          try simp only [Act.put, List.setIfInBounds_toArray, List.set_cons_zero, List.set_cons_succ, List.getElem_toArray, List.getElem_cons_succ, List.getElem_cons_zero]
          refine wpAnyH_ready (rs := [14]) (by kernel_rfl) (by simp) ?_
          refine AllReadyH.cons rfl (fun K hK => ?_) AllReadyH.nil
          refine want_plain rfl ?_
          refine wp_store_row _ _ _ rfl N1 (stA (setb g j v)) rfl rfl 44 #[.int .u32 0, .int .u32 0, .int .u32 0, .int .u32 0, .int .u32 0, .int .u32 0, .int .u32 0, .int .u32 0, .int .u32 0, .bool false, .bool false, .bool false, .bool false, .bool false, .bool false, .bool false, .int .u64 0] kU.h szS rfl (stA_all _) ?_
          have bx := (But.refl [N1] Wx4.heap.size Wx4).setRow (g := N1) (by simp) (stA (setb g j v))
          replace kU := kU.row (stA (setb g j v))
          replace kS := kS.but bx kS.lt (by have := mU.out; simp; omega)
          replace hH := hH.but bx hH.lt (by have := tU.out; simp; omega)
          replace kF := kF.but bx kF.lt (by have := uf.out; simp; omega)
          replace p := p.store bx nU.out
          clear bx
          generalize Wx4.setRow N1 (stA (setb g j v)) = Wx5 at *
          refine hK.out _ _ hH (fun _ => ?_)
          clear hK K
          try simp only [Act.put, List.setIfInBounds_toArray, List.set_cons_zero, List.set_cons_succ, List.getElem_toArray, List.getElem_cons_succ, List.getElem_cons_zero]
          refine wpAnyH_ready (rs := [15]) (by kernel_rfl) (by simp) ?_
          refine AllReadyH.cons rfl (fun K hK => ?_) AllReadyH.nil
          refine want_plain rfl ?_
          refine wp_store_row _ _ _ rfl N2 #[.int .i64 0, .int .u32 0, .int .u32 0, .int .i64 0] rfl rfl 32 #[.int .i64 0, .int .u32 0, .int .u32 0, .int .i64 0] kF.h szF rfl (by simp [Value.oneCell']) ?_
          have bx := (But.refl [N2] Wx5.heap.size Wx5).setRow (g := N2) (by simp) #[.int .i64 0, .int .u32 0, .int .u32 0, .int .i64 0]
          clear kF
          replace kS := kS.but bx kS.lt (by have := mF.out; simp; omega)
          replace hH := hH.but bx hH.lt (by have := tF.out; simp; omega)
          replace kU := kU.but bx kU.lt (by have := uf.out; simp; omega)
          replace p := p.store bx nF.out
          clear bx
          generalize Wx5.setRow N2 #[.int .i64 0, .int .u32 0, .int .u32 0, .int .i64 0] = Wx6 at *
          refine hK.out _ _ hH (fun _ => ?_)
          clear hK K
          try simp only [Act.put, List.setIfInBounds_toArray, List.set_cons_zero, List.set_cons_succ, List.getElem_toArray, List.getElem_cons_succ, List.getElem_cons_zero]
          refine wpAnyH_take (i := 16) (v := ?_) rfl (by kernel_rfl) (by kernel_rfl) (by kernel_rfl) (fun _ _ _ h => h) (Or.inl ⟨by kernel_rfl, ?_⟩) hH ?_
          rotate_left
          · intro W hS
            go_simp
            try rfl
          try simp only [Act.put, List.setIfInBounds_toArray, List.set_cons_zero, List.set_cons_succ, List.getElem_toArray, List.getElem_cons_succ, List.getElem_cons_zero]
          refine wpAnyH_done (by kernel_rfl) ?_ _
          exact ⟨N1, N2, by kernel_rfl, kS, kU, p, nU.out, mU.out⟩
      · go_simp
        have kF := Blk.new Wx1 32 #[.int .i64 0, .int .u32 0, .int .u32 0, .int .i64 0]
        have nF := Lib.hid (show B < Wx1.heap.size from p.h.lt)
        have mF := Lib.hid (show w.heap.size < Wx1.heap.size from kS.lt)
        have tF := Lib.hid (show T < Wx1.heap.size from hH.lt)
        have bx := (Below.refl Wx1.heap.size Wx1).alloc (Nat.le_refl _) (.cells #[.int .i64 0, .int .u32 0, .int .u32 0, .int .i64 0] 32)
        replace kS := kS.below bx kS.lt
        replace hH := hH.below bx hH.lt
        replace p := p.below bx
        clear bx
        generalize Wx1.alloc (.cells #[.int .i64 0, .int .u32 0, .int .u32 0, .int .i64 0] 32) = Wx2 at *
        generalize Wx1.heap.size = N2 at *
        refine hK.out _ _ hH (fun _ => ?_)
        clear hK K
        try simp only [Act.put, List.setIfInBounds_toArray, List.set_cons_zero, List.set_cons_succ, List.getElem_toArray, List.getElem_cons_succ, List.getElem_cons_zero]
        refine wpAnyH_ready (rs := [7, 12]) (by kernel_rfl) (by simp) ?_
        refine AllReadyH.cons rfl (fun K hK => ?_) (AllReadyH.cons rfl (fun K hK => ?_) AllReadyH.nil)
        · go_simp
          with_reducible refine (b_set p g hg hj v hv).mono ?_
          clear p
          rintro e Wx3 ⟨rfl, p, bx⟩
          replace kS := kS.but bx kS.lt (by have := nB.out; simp; omega)
          replace hH := hH.but bx hH.lt (by have := nT.out; simp; omega)
          replace kF := kF.but bx kF.lt (by have := nF.out; simp; omega)
          clear bx
          refine hK.out _ _ hH (fun _ => ?_)
          clear hK K
          try simp only [Act.put, List.setIfInBounds_toArray, List.set_cons_zero, List.set_cons_succ, List.getElem_toArray, List.getElem_cons_succ, List.getElem_cons_zero]
          refine wpAnyH_take (i := 8) (v := .tuple #[stV (setb g j v), fltV 0 0 0 0, .bool true]) rfl (by kernel_rfl) (by kernel_rfl) (by kernel_rfl) (fun _ _ _ h => h) (Or.inl ⟨by kernel_rfl, ?_⟩) hH ?_
          · intro W hS
            go_simp
            try rfl
          try simp only [Act.put, List.setIfInBounds_toArray, List.set_cons_zero, List.set_cons_succ, List.getElem_toArray, List.getElem_cons_succ, List.getElem_cons_zero]
          refine wpAnyH_take (i := 9) (v := stV (setb g j v)) rfl (by kernel_rfl) (by kernel_rfl) (by kernel_rfl) (fun _ _ _ h => h) (Or.inl ⟨by kernel_rfl, ?_⟩) hH ?_
          · intro W hS
            go_simp
            try rfl
          try simp only [Act.put, List.setIfInBounds_toArray, List.set_cons_zero, List.set_cons_succ, List.getElem_toArray, List.getElem_cons_succ, List.getElem_cons_zero]
          refine wpAnyH_take (i := 10) (v := fltV 0 0 0 0) rfl (by kernel_rfl) (by kernel_rfl) (by kernel_rfl) (fun _ _ _ h => h) (Or.inl ⟨by kernel_rfl, ?_⟩) hH ?_
          · intro W hS
            go_simp
            try rfl
          try simp only [Act.put, List.setIfInBounds_toArray, List.set_cons_zero, List.set_cons_succ, List.getElem_toArray, List.getElem_cons_succ, List.getElem_cons_zero]
          refine wpAnyH_take (i := 11) (v := .bool true) rfl (by kernel_rfl) (by kernel_rfl) (by kernel_rfl) (fun _ _ _ h => h) (Or.inl ⟨by kernel_rfl, ?_⟩) hH ?_
          · intro W hS
            go_simp
            try rfl
          try simp only [Act.put, List.setIfInBounds_toArray, List.set_cons_zero, List.set_cons_succ, List.getElem_toArray, List.getElem_cons_succ, List.getElem_cons_zero]
          refine wpAnyH_ready (rs := [12]) (by kernel_rfl) (by simp) ?_
          refine AllReadyH.cons rfl (fun K hK => ?_) AllReadyH.nil
          go_simp
          have kU := Blk.new Wx3 44 #[.int .u32 0, .int .u32 0, .int .u32 0, .int .u32 0, .int .u32 0, .int .u32 0, .int .u32 0, .int .u32 0, .int .u32 0, .bool false, .bool false, .bool false, .bool false, .bool false, .bool false, .bool false, .int .u64 0]
          have nU := Lib.hid (show B < Wx3.heap.size from p.h.lt)
          have mU := Lib.hid (show w.heap.size < Wx3.heap.size from kS.lt)
          have tU := Lib.hid (show T < Wx3.heap.size from hH.lt)
          have uf := Lib.hid (show N2 ≠ Wx3.heap.size from Nat.ne_of_lt kF.lt)
          have bx := (Below.refl Wx3.heap.size Wx3).alloc (Nat.le_refl _) (.cells #[.int .u32 0, .int .u32 0, .int .u32 0, .int .u32 0, .int .u32 0, .int .u32 0, .int .u32 0, .int .u32 0, .int .u32 0, .bool false, .bool false, .bool false, .bool false, .bool false, .bool false, .bool false, .int .u64 0] 44)
          replace kS := kS.below bx kS.lt
          replace hH := hH.below bx hH.lt
          replace kF := kF.below bx kF.lt
          replace p := p.below bx
          clear bx
          generalize Wx3.alloc (.cells #[.int .u32 0, .int .u32 0, .int .u32 0, .int .u32 0, .int .u32 0, .int .u32 0, .int .u32 0, .int .u32 0, .int .u32 0, .bool false, .bool false, .bool false, .bool false, .bool false, .bool false, .bool false, .int .u64 0] 44) = Wx4 at *
          generalize Wx3.heap.size = N1 at *
          refine hK.out _ _ hH (fun _ => ?_)
          clear hK K
          try simp only [Act.put, List.setIfInBounds_toArray, List.set_cons_zero, List.set_cons_succ, List.getElem_toArray, List.getElem_cons_succ, List.getElem_cons_zero]
          refine wpAnyH_ready (rs := [14]) (by kernel_rfl) (by simp) ?_
          refine AllReadyH.cons rfl (fun K hK => ?_) AllReadyH.nil
          refine want_plain rfl ?_
          refine wp_store_row _ _ _ rfl N1 (stA (setb g j v)) rfl rfl 44 #[.int .u32 0, .int .u32 0, .int .u32 0, .int .u32 0, .int .u32 0, .int .u32 0, .int .u32 0, .int .u32 0, .int .u32 0, .bool false, .bool false, .bool false, .bool false, .bool false, .bool false, .bool false, .int .u64 0] kU.h szS rfl (stA_all _) ?_
          have bx := (But.refl [N1] Wx4.heap.size Wx4).setRow (g := N1) (by simp) (stA (setb g j v))
          replace kU := kU.row (stA (setb g j v))
          replace kS := kS.but bx kS.lt (by have := mU.out; simp; omega)
          replace hH := hH.but bx hH.lt (by have := tU.out; simp; omega)
          replace kF := kF.but bx kF.lt (by have := uf.out; simp; omega)
          replace p := p.store bx nU.out
          clear bx
          generalize Wx4.setRow N1 (stA (setb g j v)) = Wx5 at *
          refine hK.out _ _ hH (fun _ => ?_)
          clear hK K
          try simp only [Act.put, List.setIfInBounds_toArray, List.set_cons_zero, List.set_cons_succ, List.getElem_toArray, List.getElem_cons_succ, List.getElem_cons_zero]
          refine wpAnyH_ready (rs := [15]) (by kernel_rfl) (by simp) ?_
          refine AllReadyH.cons rfl (fun K hK => ?_) AllReadyH.nil
          refine want_plain rfl ?_
          refine wp_store_row _ _ _ rfl N2 #[.int .i64 0, .int .u32 0, .int .u32 0, .int .i64 0] rfl rfl 32 #[.int .i64 0, .int .u32 0, .int .u32 0, .int .i64 0] kF.h szF rfl (by simp [Value.oneCell']) ?_
          have bx := (But.refl [N2] Wx5.heap.size Wx5).setRow (g := N2) (by simp) #[.int .i64 0, .int .u32 0, .int .u32 0, .int .i64 0]
          clear kF
          replace kS := kS.but bx kS.lt (by have := mF.out; simp; omega)
          replace hH := hH.but bx hH.lt (by have := tF.out; simp; omega)
          replace kU := kU.but bx kU.lt (by have := uf.out; simp; omega)
          replace p := p.store bx nF.out
          clear bx
          generalize Wx5.setRow N2 #[.int .i64 0, .int .u32 0, .int .u32 0, .int .i64 0] = Wx6 at *
          refine hK.out _ _ hH (fun _ => ?_)
          clear hK K
          try simp only [Act.put, List.setIfInBounds_toArray, List.set_cons_zero, List.set_cons_succ, List.getElem_toArray, List.getElem_cons_succ, List.getElem_cons_zero]
          refine wpAnyH_take (i := 16) (v := ?_) rfl (by kernel_rfl) (by kernel_rfl) (by kernel_rfl) (fun _ _ _ h => h) (Or.inl ⟨by kernel_rfl, ?_⟩) hH ?_
          rotate_left
          · intro W hS
            go_simp
            try rfl
          try simp only [Act.put, List.setIfInBounds_toArray, List.set_cons_zero, List.set_cons_succ, List.getElem_toArray, List.getElem_cons_succ, List.getElem_cons_zero]
          refine wpAnyH_done (by kernel_rfl) ?_ _
          exact ⟨N1, N2, by kernel_rfl, kS, kU, p, nU.out, mU.out⟩
        · go_simp
          have kU := Blk.new Wx2 44 #[.int .u32 0, .int .u32 0, .int .u32 0, .int .u32 0, .int .u32 0, .int .u32 0, .int .u32 0, .int .u32 0, .int .u32 0, .bool false, .bool false, .bool false, .bool false, .bool false, .bool false, .bool false, .int .u64 0]
          have nU := Lib.hid (show B < Wx2.heap.size from p.h.lt)
          have mU := Lib.hid (show w.heap.size < Wx2.heap.size from kS.lt)
          have tU := Lib.hid (show T < Wx2.heap.size from hH.lt)
          have uf := Lib.hid (show N2 ≠ Wx2.heap.size from Nat.ne_of_lt kF.lt)
          have bx := (Below.refl Wx2.heap.size Wx2).alloc (Nat.le_refl _) (.cells #[.int .u32 0, .int .u32 0, .int .u32 0, .int .u32 0, .int .u32 0, .int .u32 0, .int .u32 0, .int .u32 0, .int .u32 0, .bool false, .bool false, .bool false, .bool false, .bool false, .bool false, .bool false, .int .u64 0] 44)
          replace kS := kS.below bx kS.lt
          replace hH := hH.below bx hH.lt
          replace kF := kF.below bx kF.lt
          replace p := p.below bx
          clear bx
          generalize Wx2.alloc (.cells #[.int .u32 0, .int .u32 0, .int .u32 0, .int .u32 0, .int .u32 0, .int .u32 0, .int .u32 0, .int .u32 0, .int .u32 0, .bool false, .bool false, .bool false, .bool false, .bool false, .bool false, .bool false, .int .u64 0] 44) = Wx3 at *
          generalize Wx2.heap.size = N1 at *
          refine hK.out _ _ hH (fun _ => ?_)
          clear hK K
          try simp only [Act.put, List.setIfInBounds_toArray, List.set_cons_zero, List.set_cons_succ, List.getElem_toArray, List.getElem_cons_succ, List.getElem_cons_zero]
          refine wpAnyH_ready (rs := [7]) (by kernel_rfl) (by simp) ?_
          refine AllReadyH.cons rfl (fun K hK => ?_) AllReadyH.nil
          go_simp
          with_reducible refine (b_set p g hg hj v hv).mono ?_
          clear p
          rintro e Wx4 ⟨rfl, p, bx⟩
          replace kS := kS.but bx kS.lt (by have := nB.out; simp; omega)
          replace hH := hH.but bx hH.lt (by have := nT.out; simp; omega)
          replace kU := kU.but bx kU.lt (by have := nU.out; simp; omega)
          replace kF := kF.but bx kF.lt (by have := nF.out; simp; omega)
          clear bx
          refine hK.out _ _ hH (fun _ => ?_)
          clear hK K
          try simp only [Act.put, List.setIfInBounds_toArray, List.set_cons_zero, List.set_cons_succ, List.getElem_toArray, List.getElem_cons_succ, List.getElem_cons_zero]
          refine wpAnyH_take (i := 8) (v := .tuple #[stV (setb g j v), fltV 0 0 0 0, .bool true]) rfl (by kernel_rfl) (by kernel_rfl) (by kernel_rfl) (fun _ _ _ h => h) (Or.inl ⟨by kernel_rfl, ?_⟩) hH ?_
          · intro W hS
            go_simp
            try rfl
          try simp only [Act.put, List.setIfInBounds_toArray, List.set_cons_zero, List.set_cons_succ, List.getElem_toArray, List.getElem_cons_succ, List.getElem_cons_zero]
          refine wpAnyH_take (i := 9) (v := stV (setb g j v)) rfl (by kernel_rfl) (by kernel_rfl) (by kernel_rfl) (fun _ _ _ h => h) (Or.inl ⟨by kernel_rfl, ?_⟩) hH ?_
          · intro W hS
            go_simp
            try rfl
          try simp only [Act.put, List.setIfInBounds_toArray, List.set_cons_zero, List.set_cons_succ, List.getElem_toArray, List.getElem_cons_succ, List.getElem_cons_zero]
          refine wpAnyH_take (i := 10) (v := fltV 0 0 0 0) rfl (by kernel_rfl) (by kernel_rfl) (by kernel_rfl) (fun _ _ _ h => h) (Or.inl ⟨by kernel_rfl, ?_⟩) hH ?_
          · intro W hS
            go_simp
            try rfl
          try simp only [Act.put, List.setIfInBounds_toArray, List.set_cons_zero, List.set_cons_succ, List.getElem_toArray, List.getElem_cons_succ, List.getElem_cons_zero]
          refine wpAnyH_take (i := 11) (v := .bool true) rfl (by kernel_rfl) (by kernel_rfl) (by kernel_rfl) (fun _ _ _ h => h) (Or.inl ⟨by kernel_rfl, ?_⟩) hH ?_
          · intro W hS
            go_simp
            try rfl
          try simp only [Act.put, List.setIfInBounds_toArray, List.set_cons_zero, List.set_cons_succ, List.getElem_toArray, List.getElem_cons_succ, List.getElem_cons_zero]
          refine wpAnyH_ready (rs := [14]) (by kernel_rfl) (by simp) ?_
          refine AllReadyH.cons rfl (fun K hK => ?_) AllReadyH.nil
          refine want_plain rfl ?_
          refine wp_store_row _ _ _ rfl N1 (stA (setb g j v)) rfl rfl 44 #[.int .u32 0, .int .u32 0, .int .u32 0, .int .u32 0, .int .u32 0, .int .u32 0, .int .u32 0, .int .u32 0, .int .u32 0, .bool false, .bool false, .bool false, .bool false, .bool false, .bool false, .bool false, .int .u64 0] kU.h szS rfl (stA_all _) ?_
          have bx := (But.refl [N1] Wx4.heap.size Wx4).setRow (g := N1) (by simp) (stA (setb g j v))
          replace kU := kU.row (stA (setb g j v))
          replace kS := kS.but bx kS.lt (by have := mU.out; simp; omega)
          replace hH := hH.but bx hH.lt (by have := tU.out; simp; omega)
          replace kF := kF.but bx kF.lt (by have := uf.out; simp; omega)
          replace p := p.store bx nU.out
          clear bx
          generalize Wx4.setRow N1 (stA (setb g j v)) = Wx5 at *
          refine hK.out _ _ hH (fun _ => ?_)
          clear hK K
          try simp only [Act.put, List.setIfInBounds_toArray, List.set_cons_zero, List.set_cons_succ, List.getElem_toArray, List.getElem_cons_succ, List.getElem_cons_zero]
          refine wpAnyH_ready (rs := [15]) (by kernel_rfl) (by simp) ?_
          refine AllReadyH.cons rfl (fun K hK => ?_) AllReadyH.nil
          refine want_plain rfl ?_
          refine wp_store_row _ _ _ rfl N2 #[.int .i64 0, .int .u32 0, .int .u32 0, .int .i64 0] rfl rfl 32 #[.int .i64 0, .int .u32 0, .int .u32 0, .int .i64 0] kF.h szF rfl (by simp [Value.oneCell']) ?_
          have bx := (But.refl [N2] Wx5.heap.size Wx5).setRow (g := N2) (by simp) #[.int .i64 0, .int .u32 0, .int .u32 0, .int .i64 0]
          clear kF
          replace kS := kS.but bx kS.lt (by have := mF.out; simp; omega)
          replace hH := hH.but bx hH.lt (by have := tF.out; simp; omega)
          replace kU := kU.but bx kU.lt (by have := uf.out; simp; omega)
          replace p := p.store bx nF.out
          clear bx
          generalize Wx5.setRow N2 #[.int .i64 0, .int .u32 0, .int .u32 0, .int .i64 0] = Wx6 at *
          refine hK.out _ _ hH (fun _ => ?_)
          clear hK K
          try simp only [Act.put, List.setIfInBounds_toArray, List.set_cons_zero, List.set_cons_succ, List.getElem_toArray, List.getElem_cons_succ, List.getElem_cons_zero]
          refine wpAnyH_take (i := 16) (v := ?_) rfl (by kernel_rfl) (by kernel_rfl) (by kernel_rfl) (fun _ _ _ h => h) (Or.inl ⟨by kernel_rfl, ?_⟩) hH ?_
          rotate_left
          · intro W hS
            go_simp
            try rfl
          try simp only [Act.put, List.setIfInBounds_toArray, List.set_cons_zero, List.set_cons_succ, List.getElem_toArray, List.getElem_cons_succ, List.getElem_cons_zero]
          refine wpAnyH_done (by kernel_rfl) ?_ _
          exact ⟨N1, N2, by kernel_rfl, kS, kU, p, nU.out, mU.out⟩
    · go_simp
      have kU := Blk.new W 44 #[.int .u32 0, .int .u32 0, .int .u32 0, .int .u32 0, .int .u32 0, .int .u32 0, .int .u32 0, .int .u32 0, .int .u32 0, .bool false, .bool false, .bool false, .bool false, .bool false, .bool false, .bool false, .int .u64 0]
      have nU := Lib.hid (show B < W.heap.size from p.h.lt)
      have mU := Lib.hid (show w.heap.size < W.heap.size from kS.lt)
      have tU := Lib.hid (show T < W.heap.size from hH.lt)
      have bx := (Below.refl W.heap.size W).alloc (Nat.le_refl _) (.cells #[.int .u32 0, .int .u32 0, .int .u32 0, .int .u32 0, .int .u32 0, .int .u32 0, .int .u32 0, .int .u32 0, .int .u32 0, .bool false, .bool false, .bool false, .bool false, .bool false, .bool false, .bool false, .int .u64 0] 44)
      replace kS := kS.below bx kS.lt
      replace hH := hH.below bx hH.lt
      replace p := p.below bx
      clear bx
      generalize W.alloc (.cells #[.int .u32 0, .int .u32 0, .int .u32 0, .int .u32 0, .int .u32 0, .int .u32 0, .int .u32 0, .int .u32 0, .int .u32 0, .bool false, .bool false, .bool false, .bool false, .bool false, .bool false, .bool false, .int .u64 0] 44) = Wx1 at *
      generalize W.heap.size = N1 at *
      refine hK.out _ _ hH (fun _ => ?_)
      clear hK K
      try simp only [Act.put, List.setIfInBounds_toArray, List.set_cons_zero, List.set_cons_succ, List.getElem_toArray, List.getElem_cons_succ, List.getElem_cons_zero]
      refine wpAnyH_ready (rs := [5, 13]) (by kernel_rfl) (by simp) ?_
      refine AllReadyH.cons rfl (fun K hK => ?_) (AllReadyH.cons rfl (fun K hK => ?_) AllReadyH.nil)
      · go_simp
        with_reducible refine (hR.out _).mono ?_
        rintro e Wx2 ⟨rfl, bx⟩
        replace kS := kS.below bx kS.lt
        replace hH := hH.below bx hH.lt
        replace kU := kU.below bx kU.lt
        replace p := p.below bx
        clear bx
        refine hK.out _ _ hH (fun _ => ?_)
        clear hK K
        try simp only [Act.put, List.setIfInBounds_toArray, List.set_cons_zero, List.set_cons_succ, List.getElem_toArray, List.getElem_cons_succ, List.getElem_cons_zero]
        refine wpAnyH_ready (rs := [7, 13]) (by kernel_rfl) (by simp) ?_
        refine AllReadyH.cons rfl (fun K hK => ?_) (AllReadyH.cons rfl (fun K hK => ?_) AllReadyH.nil)
        · go_simp
          with_reducible refine (b_set p g hg hj v hv).mono ?_
          clear p
          rintro e Wx3 ⟨rfl, p, bx⟩
          replace kS := kS.but bx kS.lt (by have := nB.out; simp; omega)
          replace hH := hH.but bx hH.lt (by have := nT.out; simp; omega)
          replace kU := kU.but bx kU.lt (by have := nU.out; simp; omega)
          clear bx
          refine hK.out _ _ hH (fun _ => ?_)
          clear hK K
          try simp only [Act.put, List.setIfInBounds_toArray, List.set_cons_zero, List.set_cons_succ, List.getElem_toArray, List.getElem_cons_succ, List.getElem_cons_zero]
          refine wpAnyH_take (i := 8) (v := .tuple #[stV (setb g j v), fltV 0 0 0 0, .bool true]) rfl (by kernel_rfl) (by kernel_rfl) (by kernel_rfl) (fun _ _ _ h => h) (Or.inl ⟨by kernel_rfl, ?_⟩) hH ?_
          · intro W hS
            go_simp
            try rfl
          try simp only [Act.put, List.setIfInBounds_toArray, List.set_cons_zero, List.set_cons_succ, List.getElem_toArray, List.getElem_cons_succ, List.getElem_cons_zero]
          refine wpAnyH_take (i := 9) (v := stV (setb g j v)) rfl (by kernel_rfl) (by kernel_rfl) (by kernel_rfl) (fun _ _ _ h => h) (Or.inl ⟨by kernel_rfl, ?_⟩) hH ?_
          · intro W hS
            go_simp
            try rfl
          try simp only [Act.put, List.setIfInBounds_toArray, List.set_cons_zero, List.set_cons_succ, List.getElem_toArray, List.getElem_cons_succ, List.getElem_cons_zero]
          refine wpAnyH_take (i := 10) (v := fltV 0 0 0 0) rfl (by kernel_rfl) (by kernel_rfl) (by kernel_rfl) (fun _ _ _ h => h) (Or.inl ⟨by kernel_rfl, ?_⟩) hH ?_
          · intro W hS
            go_simp
            try rfl
          try simp only [Act.put, List.setIfInBounds_toArray, List.set_cons_zero, List.set_cons_succ, List.getElem_toArray, List.getElem_cons_succ, List.getElem_cons_zero]
          refine wpAnyH_take (i := 11) (v := .bool true) rfl (by kernel_rfl) (by kernel_rfl) (by kernel_rfl) (fun _ _ _ h => h) (Or.inl ⟨by kernel_rfl, ?_⟩) hH ?_
          · intro W hS
            go_simp
            try rfl
          try simp only [Act.put, List.setIfInBounds_toArray, List.set_cons_zero, List.set_cons_succ, List.getElem_toArray, List.getElem_cons_succ, List.getElem_cons_zero]
          refine wpAnyH_ready (rs := [13]) (by kernel_rfl) (by simp) ?_
          refine AllReadyH.cons rfl (fun K hK => ?_) AllReadyH.nil
          go_simp
          have kF := Blk.new Wx3 32 #[.int .i64 0, .int .u32 0, .int .u32 0, .int .i64 0]
          have nF := Lib.hid (show B < Wx3.heap.size from p.h.lt)
          have mF := Lib.hid (show w.heap.size < Wx3.heap.size from kS.lt)
          have tF := Lib.hid (show T < Wx3.heap.size from hH.lt)
          have uf := Lib.hid (show N1 ≠ Wx3.heap.size from Nat.ne_of_lt kU.lt)
          have bx := (Below.refl Wx3.heap.size Wx3).alloc (Nat.le_refl _) (.cells #[.int .i64 0, .int .u32 0, .int .u32 0, .int .i64 0] 32)
          replace kS := kS.below bx kS.lt
          replace hH := hH.below bx hH.lt
          replace kU := kU.below bx kU.lt
          replace p := p.below bx
          clear bx
          generalize Wx3.alloc (.cells #[.int .i64 0, .int .u32 0, .int .u32 0, .int .i64 0] 32) = Wx4 at *
          generalize Wx3.heap.size = N2 at *
          refine hK.out _ _ hH (fun _ => ?_)
          clear hK K
          try simp only [Act.put, List.setIfInBounds_toArray, List.set_cons_zero, List.set_cons_succ, List.getElem_toArray, List.getElem_cons_succ, List.getElem_cons_zero]
          refine wpAnyH_ready (rs := [14]) (by kernel_rfl) (by simp) ?_
          refine AllReadyH.cons rfl (fun K hK => ?_) AllReadyH.nil
          refine want_plain rfl ?_
          refine wp_store_row _ _ _ rfl N1 (stA (setb g j v)) rfl rfl 44 #[.int .u32 0, .int .u32 0, .int .u32 0, .int .u32 0, .int .u32 0, .int .u32 0, .int .u32 0, .int .u32 0, .int .u32 0, .bool false, .bool false, .bool false, .bool false, .bool false, .bool false, .bool false, .int .u64 0] kU.h szS rfl (stA_all _) ?_
          have bx := (But.refl [N1] Wx4.heap.size Wx4).setRow (g := N1) (by simp) (stA (setb g j v))
          replace kU := kU.row (stA (setb g j v))
          replace kS := kS.but bx kS.lt (by have := mU.out; simp; omega)
          replace hH := hH.but bx hH.lt (by have := tU.out; simp; omega)
          replace kF := kF.but bx kF.lt (by have := uf.out; simp; omega)
          replace p := p.store bx nU.out
          clear bx
          generalize Wx4.setRow N1 (stA (setb g j v)) = Wx5 at *
          refine hK.out _ _ hH (fun _ => ?_)
          clear hK K
          try simp only [Act.put, List.setIfInBounds_toArray, List.set_cons_zero, List.set_cons_succ, List.getElem_toArray, List.getElem_cons_succ, List.getElem_cons_zero]
          refine wpAnyH_ready (rs := [15]) (by kernel_rfl) (by simp) ?_
          refine AllReadyH.cons rfl (fun K hK => ?_) AllReadyH.nil
          refine want_plain rfl ?_
          refine wp_store_row _ _ _ rfl N2 #[.int .i64 0, .int .u32 0, .int .u32 0, .int .i64 0] rfl rfl 32 #[.int .i64 0, .int .u32 0, .int .u32 0, .int .i64 0] kF.h szF rfl (by simp [Value.oneCell']) ?_
          have bx := (But.refl [N2] Wx5.heap.size Wx5).setRow (g := N2) (by simp) #[.int .i64 0, .int .u32 0, .int .u32 0, .int .i64 0]
          clear kF
          replace kS := kS.but bx kS.lt (by have := mF.out; simp; omega)
          replace hH := hH.but bx hH.lt (by have := tF.out; simp; omega)
          replace kU := kU.but bx kU.lt (by have := uf.out; simp; omega)
          replace p := p.store bx nF.out
          clear bx
          generalize Wx5.setRow N2 #[.int .i64 0, .int .u32 0, .int .u32 0, .int .i64 0] = Wx6 at *
          refine hK.out _ _ hH (fun _ => ?_)
          clear hK K
          try simp only [Act.put, List.setIfInBounds_toArray, List.set_cons_zero, List.set_cons_succ, List.getElem_toArray, List.getElem_cons_succ, List.getElem_cons_zero]
          refine wpAnyH_take (i := 16) (v := ?_) rfl (by kernel_rfl) (by kernel_rfl) (by kernel_rfl) (fun _ _ _ h => h) (Or.inl ⟨by kernel_rfl, ?_⟩) hH ?_
          rotate_left
          · intro W hS
            go_simp
            try rfl
          try simp only [Act.put, List.setIfInBounds_toArray, List.set_cons_zero, List.set_cons_succ, List.getElem_toArray, List.getElem_cons_succ, List.getElem_cons_zero]
          refine wpAnyH_done (by kernel_rfl) ?_ _
          exact ⟨N1, N2, by kernel_rfl, kS, kU, p, nU.out, mU.out⟩
        · go_simp
          have kF := Blk.new Wx2 32 #[.int .i64 0, .int .u32 0, .int .u32 0, .int .i64 0]
          have nF := Lib.hid (show B < Wx2.heap.size from p.h.lt)
          have mF := Lib.hid (show w.heap.size < Wx2.heap.size from kS.lt)
          have tF := Lib.hid (show T < Wx2.heap.size from hH.lt)
          have uf := Lib.hid (show N1 ≠ Wx2.heap.size from Nat.ne_of_lt kU.lt)
          have bx := (Below.refl Wx2.heap.size Wx2).alloc (Nat.le_refl _) (.cells #[.int .i64 0, .int .u32 0, .int .u32 0, .int .i64 0] 32)
          replace kS := kS.below bx kS.lt
          replace hH := hH.below bx hH.lt
          replace kU := kU.below bx kU.lt
          replace p := p.below bx
          clear bx
          generalize Wx2.alloc (.cells #[.int .i64 0, .int .u32 0, .int .u32 0, .int .i64 0] 32) = Wx3 at *
          generalize Wx2.heap.size = N2 at *
          refine hK.out _ _ hH (fun _ => ?_)
          clear hK K
          try simp only [Act.put, List.setIfInBounds_toArray, List.set_cons_zero, List.set_cons_succ, List.getElem_toArray, List.getElem_cons_succ, List.getElem_cons_zero]
          refine wpAnyH_ready (rs := [7]) (by kernel_rfl) (by simp) ?_
          refine AllReadyH.cons rfl (fun K hK => ?_) AllReadyH.nil
          go_simp
          with_reducible refine (b_set p g hg hj v hv).mono ?_
          clear p
          rintro e Wx4 ⟨rfl, p, bx⟩
          replace kS := kS.but bx kS.lt (by have := nB.out; simp; omega)
          replace hH := hH.but bx hH.lt (by have := nT.out; simp; omega)
          replace kU := kU.but bx kU.lt (by have := nU.out; simp; omega)
          replace kF := kF.but bx kF.lt (by have := nF.out; simp; omega)
          clear bx
          refine hK.out _ _ hH (fun _ => ?_)
          clear hK K
          try simp only [Act.put, List.setIfInBounds_toArray, List.set_cons_zero, List.set_cons_succ, List.getElem_toArray, List.getElem_cons_succ, List.getElem_cons_zero]
          refine wpAnyH_take (i := 8) (v := .tuple #[stV (setb g j v), fltV 0 0 0 0, .bool true]) rfl (by kernel_rfl) (by kernel_rfl) (by kernel_rfl) (fun _ _ _ h => h) (Or.inl ⟨by kernel_rfl, ?_⟩) hH ?_
          · intro W hS
            go_simp
            try rfl
          try simp only [Act.put, List.setIfInBounds_toArray, List.set_cons_zero, List.set_cons_succ, List.getElem_toArray, List.getElem_cons_succ, List.getElem_cons_zero]
          refine wpAnyH_take (i := 9) (v := stV (setb g j v)) rfl (by kernel_rfl) (by kernel_rfl) (by kernel_rfl) (fun _ _ _ h => h) (Or.inl ⟨by kernel_rfl, ?_⟩) hH ?_
          · intro W hS
            go_simp
            try rfl
          try simp only [Act.put, List.setIfInBounds_toArray, List.set_cons_zero, List.set_cons_succ, List.getElem_toArray, List.getElem_cons_succ, List.getElem_cons_zero]
          refine wpAnyH_take (i := 10) (v := fltV 0 0 0 0) rfl (by kernel_rfl) (by kernel_rfl) (by kernel_rfl) (fun _ _ _ h => h) (Or.inl ⟨by kernel_rfl, ?_⟩) hH ?_
          · intro W hS
            go_simp
            try rfl
          try simp only [Act.put, List.setIfInBounds_toArray, List.set_cons_zero, List.set_cons_succ, List.getElem_toArray, List.getElem_cons_succ, List.getElem_cons_zero]
          refine wpAnyH_take (i := 11) (v := .bool true) rfl (by kernel_rfl) (by kernel_rfl) (by kernel_rfl) (fun _ _ _ h => h) (Or.inl ⟨by kernel_rfl, ?_⟩) hH ?_
          · intro W hS
            go_simp
            try rfl
          try simp only [Act.put, List.setIfInBounds_toArray, List.set_cons_zero, List.set_cons_succ, List.getElem_toArray, List.getElem_cons_succ, List.getElem_cons_zero]
          refine wpAnyH_ready (rs := [14]) (by kernel_rfl) (by simp) ?_
          refine AllReadyH.cons rfl (fun K hK => ?_) AllReadyH.nil
          refine want_plain rfl ?_
          refine wp_store_row _ _ _ rfl N1 (stA (setb g j v)) rfl rfl 44 #[.int .u32 0, .int .u32 0, .int .u32 0, .int .u32 0, .int .u32 0, .int .u32 0, .int .u32 0, .int .u32 0, .int .u32 0, .bool false, .bool false, .bool false, .bool false, .bool false, .bool false, .bool false, .int .u64 0] kU.h szS rfl (stA_all _) ?_
          have bx := (But.refl [N1] Wx4.heap.size Wx4).setRow (g := N1) (by simp) (stA (setb g j v))
          replace kU := kU.row (stA (setb g j v))
          replace kS := kS.but bx kS.lt (by have := mU.out; simp; omega)
          replace hH := hH.but bx hH.lt (by have := tU.out; simp; omega)
          replace kF := kF.but bx kF.lt (by have := uf.out; simp; omega)
          replace p := p.store bx nU.out
          clear bx
          generalize Wx4.setRow N1 (stA (setb g j v)) = Wx5 at *
          refine hK.out _ _ hH (fun _ => ?_)
          clear hK K
          try simp only [Act.put, List.setIfInBounds_toArray, List.set_cons_zero, List.set_cons_succ, List.getElem_toArray, List.getElem_cons_succ, List.getElem_cons_zero]
          refine wpAnyH_ready (rs := [15]) (by kernel_rfl) (by simp) ?_
          refine AllReadyH.cons rfl (fun K hK => ?_) AllReadyH.nil
          refine want_plain rfl ?_
          refine wp_store_row _ _ _ rfl N2 #[.int .i64 0, .int .u32 0, .int .u32 0, .int .i64 0] rfl rfl 32 #[.int .i64 0, .int .u32 0, .int .u32 0, .int .i64 0] kF.h szF rfl (by simp [Value.oneCell']) ?_
          have bx := (But.refl [N2] Wx5.heap.size Wx5).setRow (g := N2) (by simp) #[.int .i64 0, .int .u32 0, .int .u32 0, .int .i64 0]
          clear kF
          replace kS := kS.but bx kS.lt (by have := mF.out; simp; omega)
          replace hH := hH.but bx hH.lt (by have := tF.out; simp; omega)
          replace kU := kU.but bx kU.lt (by have := uf.out; simp; omega)
          replace p := p.store bx nF.out
          clear bx
          generalize Wx5.setRow N2 #[.int .i64 0, .int .u32 0, .int .u32 0, .int .i64 0] = Wx6 at *
          refine hK.out _ _ hH (fun _ => ?_)
          clear hK K
          try simp only [Act.put, List.setIfInBounds_toArray, List.set_cons_zero, List.set_cons_succ, List.getElem_toArray, List.getElem_cons_succ, List.getElem_cons_zero]
          refine wpAnyH_take (i := 16) (v := ?_) rfl (by kernel_rfl) (by kernel_rfl) (by kernel_rfl) (fun _ _ _ h => h) (Or.inl ⟨by kernel_rfl, ?_⟩) hH ?_
          rotate_left
          · intro W hS
            go_simp
            try rfl
          try simp only [Act.put, List.setIfInBounds_toArray, List.set_cons_zero, List.set_cons_succ, List.getElem_toArray, List.getElem_cons_succ, List.getElem_cons_zero]
          refine wpAnyH_done (by kernel_rfl) ?_ _
          exact ⟨N1, N2, by kernel_rfl, kS, kU, p, nU.out, mU.out⟩
      · go_simp
        have kF := Blk.new Wx1 32 #[.int .i64 0, .int .u32 0, .int .u32 0, .int .i64 0]
        have nF := Lib.hid (show B < Wx1.heap.size from p.h.lt)
        have mF := Lib.hid (show w.heap.size < Wx1.heap.size from kS.lt)
        have tF := Lib.hid (show T < Wx1.heap.size from hH.lt)
        have uf := Lib.hid (show N1 ≠ Wx1.heap.size from Nat.ne_of_lt kU.lt)
        have bx := (Below.refl Wx1.heap.size Wx1).alloc (Nat.le_refl _) (.cells #[.int .i64 0, .int .u32 0, .int .u32 0, .int .i64 0] 32)
        replace kS := kS.below bx kS.lt
        replace hH := hH.below bx hH.lt
        replace kU := kU.below bx kU.lt
        replace p := p.below bx
        clear bx
        generalize Wx1.alloc (.cells #[.int .i64 0, .int .u32 0, .int .u32 0, .int .i64 0] 32) = Wx2 at *
        generalize Wx1.heap.size = N2 at *
        refine hK.out _ _ hH (fun _ => ?_)
        clear hK K
        try simp only [Act.put, List.setIfInBounds_toArray, List.set_cons_zero, List.set_cons_succ, List.getElem_toArray, List.getElem_cons_succ, List.getElem_cons_zero]
        refine wpAnyH_ready (rs := [5]) (by kernel_rfl) (by simp) ?_
        refine AllReadyH.cons rfl (fun K hK => ?_) AllReadyH.nil
        go_simp
        with_reducible refine (hR.out _).mono ?_
        rintro e Wx3 ⟨rfl, bx⟩
        replace kS := kS.below bx kS.lt
        replace hH := hH.below bx hH.lt
        replace kU := kU.below bx kU.lt
        replace kF := kF.below bx kF.lt
        replace p := p.below bx
        clear bx
        refine hK.out _ _ hH (fun _ => ?_)
        clear hK K
        try simp only [Act.put, List.setIfInBounds_toArray, List.set_cons_zero, List.set_cons_succ, List.getElem_toArray, List.getElem_cons_succ, List.getElem_cons_zero]
        refine wpAnyH_ready (rs := [7]) (by kernel_rfl) (by simp) ?_
        refine AllReadyH.cons rfl (fun K hK => ?_) AllReadyH.nil
        go_simp
        with_reducible refine (b_set p g hg hj v hv).mono ?_
        clear p
        rintro e Wx4 ⟨rfl, p, bx⟩
        replace kS := kS.but bx kS.lt (by have := nB.out; simp; omega)
        replace hH := hH.but bx hH.lt (by have := nT.out; simp; omega)
        replace kU := kU.but bx kU.lt (by have := nU.out; simp; omega)
        replace kF := kF.but bx kF.lt (by have := nF.out; simp; omega)
        clear bx
        refine hK.out _ _ hH (fun _ => ?_)
        clear hK K
        try simp only [Act.put, List.setIfInBounds_toArray, List.set_cons_zero, List.set_cons_succ, List.getElem_toArray, List.getElem_cons_succ, List.getElem_cons_zero]
        refine wpAnyH_take (i := 8) (v := .tuple #[stV (setb g j v), fltV 0 0 0 0, .bool true]) rfl (by kernel_rfl) (by kernel_rfl) (by kernel_rfl) (fun _ _ _ h => h) (Or.inl ⟨by kernel_rfl, ?_⟩) hH ?_
        · intro W hS
          go_simp
          try rfl
        try simp only [Act.put, List.setIfInBounds_toArray, List.set_cons_zero, List.set_cons_succ, List.getElem_toArray, List.getElem_cons_succ, List.getElem_cons_zero]
        refine wpAnyH_take (i := 9) (v := stV (setb g j v)) rfl (by kernel_rfl) (by kernel_rfl) (by kernel_rfl) (fun _ _ _ h => h) (Or.inl ⟨by kernel_rfl, ?_⟩) hH ?_
        · intro W hS
          go_simp
          try rfl
        try simp only [Act.put, List.setIfInBounds_toArray, List.set_cons_zero, List.set_cons_succ, List.getElem_toArray, List.getElem_cons_succ, List.getElem_cons_zero]
        refine wpAnyH_take (i := 10) (v := fltV 0 0 0 0) rfl (by kernel_rfl) (by kernel_rfl) (by kernel_rfl) (fun _ _ _ h => h) (Or.inl ⟨by kernel_rfl, ?_⟩) hH ?_
        · intro W hS
          go_simp
          try rfl
        try simp only [Act.put, List.setIfInBounds_toArray, List.set_cons_zero, List.set_cons_succ, List.getElem_toArray, List.getElem_cons_succ, List.getElem_cons_zero]
        refine wpAnyH_take (i := 11) (v := .bool true) rfl (by kernel_rfl) (by kernel_rfl) (by kernel_rfl) (fun _ _ _ h => h) (Or.inl ⟨by kernel_rfl, ?_⟩) hH ?_
        · intro W hS
          go_simp
          try rfl
        try simp only [Act.put, List.setIfInBounds_toArray, List.set_cons_zero, List.set_cons_succ, List.getElem_toArray, List.getElem_cons_succ, List.getElem_cons_zero]
        refine wpAnyH_ready (rs := [14]) (by kernel_rfl) (by simp) ?_
        refine AllReadyH.cons rfl (fun K hK => ?_) AllReadyH.nil
        refine want_plain rfl ?_
        refine wp_store_row _ _ _ rfl N1 (stA (setb g j v)) rfl rfl 44 #[.int .u32 0, .int .u32 0, .int .u32 0, .int .u32 0, .int .u32 0, .int .u32 0, .int .u32 0, .int .u32 0, .int .u32 0, .bool false, .bool false, .bool false, .bool false, .bool false, .bool false, .bool false, .int .u64 0] kU.h szS rfl (stA_all _) ?_
        have bx := (But.refl [N1] Wx4.heap.size Wx4).setRow (g := N1) (by simp) (stA (setb g j v))
        replace kU := kU.row (stA (setb g j v))
        replace kS := kS.but bx kS.lt (by have := mU.out; simp; omega)
        replace hH := hH.but bx hH.lt (by have := tU.out; simp; omega)
        replace kF := kF.but bx kF.lt (by have := uf.out; simp; omega)
        replace p := p.store bx nU.out
        clear bx
        generalize Wx4.setRow N1 (stA (setb g j v)) = Wx5 at *
        refine hK.out _ _ hH (fun _ => ?_)
        clear hK K
        try simp only [Act.put, List.setIfInBounds_toArray, List.set_cons_zero, List.set_cons_succ, List.getElem_toArray, List.getElem_cons_succ, List.getElem_cons_zero]
        refine wpAnyH_ready (rs := [15]) (by kernel_rfl) (by simp) ?_
        refine AllReadyH.cons rfl (fun K hK => ?_) AllReadyH.nil
        refine want_plain rfl ?_
        refine wp_store_row _ _ _ rfl N2 #[.int .i64 0, .int .u32 0, .int .u32 0, .int .i64 0] rfl rfl 32 #[.int .i64 0, .int .u32 0, .int .u32 0, .int .i64 0] kF.h szF rfl (by simp [Value.oneCell']) ?_
        have bx := (But.refl [N2] Wx5.heap.size Wx5).setRow (g := N2) (by simp) #[.int .i64 0, .int .u32 0, .int .u32 0, .int .i64 0]
        clear kF
        replace kS := kS.but bx kS.lt (by have := mF.out; simp; omega)
        replace hH := hH.but bx hH.lt (by have := tF.out; simp; omega)
        replace kU := kU.but bx kU.lt (by have := uf.out; simp; omega)
        replace p := p.store bx nF.out
        clear bx
        generalize Wx5.setRow N2 #[.int .i64 0, .int .u32 0, .int .u32 0, .int .i64 0] = Wx6 at *
        refine hK.out _ _ hH (fun _ => ?_)
        clear hK K
        try simp only [Act.put, List.setIfInBounds_toArray, List.set_cons_zero, List.set_cons_succ, List.getElem_toArray, List.getElem_cons_succ, List.getElem_cons_zero]
        refine wpAnyH_take (i := 16) (v := ?_) rfl (by kernel_rfl) (by kernel_rfl) (by kernel_rfl) (fun _ _ _ h => h) (Or.inl ⟨by kernel_rfl, ?_⟩) hH ?_
        rotate_left
        · intro W hS
          go_simp
          try rfl
        try simp only [Act.put, List.setIfInBounds_toArray, List.set_cons_zero, List.set_cons_succ, List.getElem_toArray, List.getElem_cons_succ, List.getElem_cons_zero]
        refine wpAnyH_done (by kernel_rfl) ?_ _
        exact ⟨N1, N2, by kernel_rfl, kS, kU, p, nU.out, mU.out⟩
    · go_simp
      have kF := Blk.new W 32 #[.int .i64 0, .int .u32 0, .int .u32 0, .int .i64 0]
      have nF := Lib.hid (show B < W.heap.size from p.h.lt)
      have mF := Lib.hid (show w.heap.size < W.heap.size from kS.lt)
      have tF := Lib.hid (show T < W.heap.size from hH.lt)
      have bx := (Below.refl W.heap.size W).alloc (Nat.le_refl _) (.cells #[.int .i64 0, .int .u32 0, .int .u32 0, .int .i64 0] 32)
      replace kS := kS.below bx kS.lt
      replace hH := hH.below bx hH.lt
      replace p := p.below bx
      clear bx
      generalize W.alloc (.cells #[.int .i64 0, .int .u32 0, .int .u32 0, .int .i64 0] 32) = Wx1 at *
      generalize W.heap.size = N2 at *
      refine hK.out _ _ hH (fun _ => ?_)
      clear hK K
      try simp only [Act.put, List.setIfInBounds_toArray, List.set_cons_zero, List.set_cons_succ, List.getElem_toArray, List.getElem_cons_succ, List.getElem_cons_zero]
      refine wpAnyH_ready (rs := [5, 12]) (by kernel_rfl) (by simp) ?_
      refine AllReadyH.cons rfl (fun K hK => ?_) (AllReadyH.cons rfl (fun K hK => ?_) AllReadyH.nil)
      · go_simp
        with_reducible refine (hR.out _).mono ?_
        rintro e Wx2 ⟨rfl, bx⟩
        replace kS := kS.below bx kS.lt
        replace hH := hH.below bx hH.lt
        replace kF := kF.below bx kF.lt
        replace p := p.below bx
        clear bx
        refine hK.out _ _ hH (fun _ => ?_)
        clear hK K
        try simp only [Act.put, List.setIfInBounds_toArray, List.set_cons_zero, List.set_cons_succ, List.getElem_toArray, List.getElem_cons_succ, List.getElem_cons_zero]
        refine wpAnyH_ready (rs := [7, 12]) (by kernel_rfl) (by simp) ?_
        refine AllReadyH.cons rfl (fun K hK => ?_) (AllReadyH.cons rfl (fun K hK => ?_) AllReadyH.nil)
        · go_simp
          with_reducible refine (b_set p g hg hj v hv).mono ?_
          clear p
          rintro e Wx3 ⟨rfl, p, bx⟩
          replace kS := kS.but bx kS.lt (by have := nB.out; simp; omega)
          replace hH := hH.but bx hH.lt (by have := nT.out; simp; omega)
          replace kF := kF.but bx kF.lt (by have := nF.out; simp; omega)
          clear bx
          refine hK.out _ _ hH (fun _ => ?_)
          clear hK K
          try simp only [Act.put, List.setIfInBounds_toArray, List.set_cons_zero, List.set_cons_succ, List.getElem_toArray, List.getElem_cons_succ, List.getElem_cons_zero]
          refine wpAnyH_take (i := 8) (v := .tuple #[stV (setb g j v), fltV 0 0 0 0, .bool true]) rfl (by kernel_rfl) (by kernel_rfl) (by kernel_rfl) (fun _ _ _ h => h) (Or.inl ⟨by kernel_rfl, ?_⟩) hH ?_
          · intro W hS
            go_simp
            try rfl
          try simp only [Act.put, List.setIfInBounds_toArray, List.set_cons_zero, List.set_cons_succ, List.getElem_toArray, List.getElem_cons_succ, List.getElem_cons_zero]
          refine wpAnyH_take (i := 9) (v := stV (setb g j v)) rfl (by kernel_rfl) (by kernel_rfl) (by kernel_rfl) (fun _ _ _ h => h) (Or.inl ⟨by kernel_rfl, ?_⟩) hH ?_
          · intro W hS
            go_simp
            try rfl
          try simp only [Act.put, List.setIfInBounds_toArray, List.set_cons_zero, List.set_cons_succ, List.getElem_toArray, List.getElem_cons_succ, List.getElem_cons_zero]
          refine wpAnyH_take (i := 10) (v := fltV 0 0 0 0) rfl (by kernel_rfl) (by kernel_rfl) (by kernel_rfl) (fun _ _ _ h => h) (Or.inl ⟨by kernel_rfl, ?_⟩) hH ?_
          · intro W hS
            go_simp
            try rfl
          try simp only [Act.put, List.setIfInBounds_toArray, List.set_cons_zero, List.set_cons_succ, List.getElem_toArray, List.getElem_cons_succ, List.getElem_cons_zero]
          refine wpAnyH_take (i := 11) (v := .bool true) rfl (by kernel_rfl) (by kernel_rfl) (by kernel_rfl) (fun _ _ _ h => h) (Or.inl ⟨by kernel_rfl, ?_⟩) hH ?_
          · intro W hS
            go_simp
            try rfl
          try simp only [Act.put, List.setIfInBounds_toArray, List.set_cons_zero, List.set_cons_succ, List.getElem_toArray, List.getElem_cons_succ, List.getElem_cons_zero]
          refine wpAnyH_ready (rs := [12]) (by kernel_rfl) (by simp) ?_
          refine AllReadyH.cons rfl (fun K hK => ?_) AllReadyH.nil
          go_simp
          have kU := Blk.new Wx3 44 #[.int .u32 0, .int .u32 0, .int .u32 0, .int .u32 0, .int .u32 0, .int .u32 0, .int .u32 0, .int .u32 0, .int .u32 0, .bool false, .bool false, .bool false, .bool false, .bool false, .bool false, .bool false, .int .u64 0]
          have nU := Lib.hid (show B < Wx3.heap.size from p.h.lt)
          have mU := Lib.hid (show w.heap.size < Wx3.heap.size from kS.lt)
          have tU := Lib.hid (show T < Wx3.heap.size from hH.lt)
          have uf := Lib.hid (show N2 ≠ Wx3.heap.size from Nat.ne_of_lt kF.lt)
          have bx := (Below.refl Wx3.heap.size Wx3).alloc (Nat.le_refl _) (.cells #[.int .u32 0, .int .u32 0, .int .u32 0, .int .u32 0, .int .u32 0, .int .u32 0, .int .u32 0, .int .u32 0, .int .u32 0, .bool false, .bool false, .bool false, .bool false, .bool false, .bool false, .bool false, .int .u64 0] 44)
          replace kS := kS.below bx kS.lt
          replace hH := hH.below bx hH.lt
          replace kF := kF.below bx kF.lt
          replace p := p.below bx
          clear bx
          generalize Wx3.alloc (.cells #[.int .u32 0, .int .u32 0, .int .u32 0, .int .u32 0, .int .u32 0, .int .u32 0, .int .u32 0, .int .u32 0, .int .u32 0, .bool false, .bool false, .bool false, .bool false, .bool false, .bool false, .bool false, .int .u64 0] 44) = Wx4 at *
          generalize Wx3.heap.size = N1 at *
          refine hK.out _ _ hH (fun _ => ?_)
          clear hK K
          try simp only [Act.put, List.setIfInBounds_toArray, List.set_cons_zero, List.set_cons_succ, List.getElem_toArray, List.getElem_cons_succ, List.getElem_cons_zero]
          refine wpAnyH_ready (rs := [14]) (by kernel_rfl) (by simp) ?_
          refine AllReadyH.cons rfl (fun K hK => ?_) AllReadyH.nil
          refine want_plain rfl ?_
          refine wp_store_row _ _ _ rfl N1 (stA (setb g j v)) rfl rfl 44 #[.int .u32 0, .int .u32 0, .int .u32 0, .int .u32 0, .int .u32 0, .int .u32 0, .int .u32 0, .int .u32 0, .int .u32 0, .bool false, .bool false, .bool false, .bool false, .bool false, .bool false, .bool false, .int .u64 0] kU.h szS rfl (stA_all _) ?_
          have bx := (But.refl [N1] Wx4.heap.size Wx4).setRow (g := N1) (by simp) (stA (setb g j v))
          replace kU := kU.row (stA (setb g j v))
          replace kS := kS.but bx kS.lt (by have := mU.out; simp; omega)
          replace hH := hH.but bx hH.lt (by have := tU.out; simp; omega)
          replace kF := kF.but bx kF.lt (by have := uf.out; simp; omega)
          replace p := p.store bx nU.out
          clear bx
          generalize Wx4.setRow N1 (stA (setb g j v)) = Wx5 at *
          refine hK.out _ _ hH (fun _ => ?_)
          clear hK K
          try simp only [Act.put, List.setIfInBounds_toArray, List.set_cons_zero, List.set_cons_succ, List.getElem_toArray, List.getElem_cons_succ, List.getElem_cons_zero]
          refine wpAnyH_ready (rs := [15]) (by kernel_rfl) (by simp) ?_
          refine AllReadyH.cons rfl (fun K hK => ?_) AllReadyH.nil
          refine want_plain rfl ?_
          refine wp_store_row _ _ _ rfl N2 #[.int .i64 0, .int .u32 0, .int .u32 0, .int .i64 0] rfl rfl 32 #[.int .i64 0, .int .u32 0, .int .u32 0, .int .i64 0] kF.h szF rfl (by simp [Value.oneCell']) ?_
          have bx := (But.refl [N2] Wx5.heap.size Wx5).setRow (g := N2) (by simp) #[.int .i64 0, .int .u32 0, .int .u32 0, .int .i64 0]
          clear kF
          replace kS := kS.but bx kS.lt (by have := mF.out; simp; omega)
          replace hH := hH.but bx hH.lt (by have := tF.out; simp; omega)
          replace kU := kU.but bx kU.lt (by have := uf.out; simp; omega)
          replace p := p.store bx nF.out
          clear bx
          generalize Wx5.setRow N2 #[.int .i64 0, .int .u32 0, .int .u32 0, .int .i64 0] = Wx6 at *
          refine hK.out _ _ hH (fun _ => ?_)
          clear hK K
          try simp only [Act.put, List.setIfInBounds_toArray, List.set_cons_zero, List.set_cons_succ, List.getElem_toArray, List.getElem_cons_succ, List.getElem_cons_zero]
          refine wpAnyH_take (i := 16) (v := ?_) rfl (by kernel_rfl) (by kernel_rfl) (by kernel_rfl) (fun _ _ _ h => h) (Or.inl ⟨by kernel_rfl, ?_⟩) hH ?_
          rotate_left
          · intro W hS
            go_simp
            try rfl
          try simp only [Act.put, List.setIfInBounds_toArray, List.set_cons_zero, List.set_cons_succ, List.getElem_toArray, List.getElem_cons_succ, List.getElem_cons_zero]
          refine wpAnyH_done (by kernel_rfl) ?_ _
          exact ⟨N1, N2, by kernel_rfl, kS, kU, p, nU.out, mU.out⟩
        · go_simp
          have kU := Blk.new Wx2 44 #[.int .u32 0, .int .u32 0, .int .u32 0, .int .u32 0, .int .u32 0, .int .u32 0, .int .u32 0, .int .u32 0, .int .u32 0, .bool false, .bool false, .bool false, .bool false, .bool false, .bool false, .bool false, .int .u64 0]
          have nU := Lib.hid (show B < Wx2.heap.size from p.h.lt)
          have mU := Lib.hid (show w.heap.size < Wx2.heap.size from kS.lt)
          have tU := Lib.hid (show T < Wx2.heap.size from hH.lt)
          have uf := Lib.hid (show N2 ≠ Wx2.heap.size from Nat.ne_of_lt kF.lt)
          have bx := (Below.refl Wx2.heap.size Wx2).alloc (Nat.le_refl _) (.cells #[.int .u32 0, .int .u32 0, .int .u32 0, .int .u32 0, .int .u32 0, .int .u32 0, .int .u32 0, .int .u32 0, .int .u32 0, .bool false, .bool false, .bool false, .bool false, .bool false, .bool false, .bool false, .int .u64 0] 44)
          replace kS := kS.below bx kS.lt
          replace hH := hH.below bx hH.lt
          replace kF := kF.below bx kF.lt
          replace p := p.below bx
          clear bx
          generalize Wx2.alloc (.cells #[.int .u32 0, .int .u32 0, .int .u32 0, .int .u32 0, .int .u32 0, .int .u32 0, .int .u32 0, .int .u32 0, .int .u32 0, .bool false, .bool false, .bool false, .bool false, .bool false, .bool false, .bool false, .int .u64 0] 44) = Wx3 at *
          generalize Wx2.heap.size = N1 at *
          refine hK.out _ _ hH (fun _ => ?_)
          clear hK K
          try simp only [Act.put, List.setIfInBounds_toArray, List.set_cons_zero, List.set_cons_succ, List.getElem_toArray, List.getElem_cons_succ, List.getElem_cons_zero]
          refine wpAnyH_ready (rs := [7]) (by kernel_rfl) (by simp) ?_
          refine AllReadyH.cons rfl (fun K hK => ?_) AllReadyH.nil
          go_simp
          with_reducible refine (b_set p g hg hj v hv).mono ?_
          clear p
          rintro e Wx4 ⟨rfl, p, bx⟩
          replace kS := kS.but bx kS.lt (by have := nB.out; simp; omega)
          replace hH := hH.but bx hH.lt (by have := nT.out; simp; omega)
          replace kU := kU.but bx kU.lt (by have := nU.out; simp; omega)
          replace kF := kF.but bx kF.lt (by have := nF.out; simp; omega)
          clear bx
          refine hK.out _ _ hH (fun _ => ?_)
          clear hK K
          try simp only [Act.put, List.setIfInBounds_toArray, List.set_cons_zero, List.set_cons_succ, List.getElem_toArray, List.getElem_cons_succ, List.getElem_cons_zero]
          refine wpAnyH_take (i := 8) (v := .tuple #[stV (setb g j v), fltV 0 0 0 0, .bool true]) rfl (by kernel_rfl) (by kernel_rfl) (by kernel_rfl) (fun _ _ _ h => h) (Or.inl ⟨by kernel_rfl, ?_⟩) hH ?_
          · intro W hS
            go_simp
            try rfl
          try simp only [Act.put, List.setIfInBounds_toArray, List.set_cons_zero, List.set_cons_succ, List.getElem_toArray, List.getElem_cons_succ, List.getElem_cons_zero]
          refine wpAnyH_take (i := 9) (v := stV (setb g j v)) rfl (by kernel_rfl) (by kernel_rfl) (by kernel_rfl) (fun _ _ _ h => h) (Or.inl ⟨by kernel_rfl, ?_⟩) hH ?_
          · intro W hS
            go_simp
            try rfl
          try simp only [Act.put, List.setIfInBounds_toArray, List.set_cons_zero, List.set_cons_succ, List.getElem_toArray, List.getElem_cons_succ, List.getElem_cons_zero]
          refine wpAnyH_take (i := 10) (v := fltV 0 0 0 0) rfl (by kernel_rfl) (by kernel_rfl) (by kernel_rfl) (fun _ _ _ h => h) (Or.inl ⟨by kernel_rfl, ?_⟩) hH ?_
          · intro W hS
            go_simp
            try rfl
          try simp only [Act.put, List.setIfInBounds_toArray, List.set_cons_zero, List.set_cons_succ, List.getElem_toArray, List.getElem_cons_succ, List.getElem_cons_zero]
          refine wpAnyH_take (i := 11) (v := .bool true) rfl (by kernel_rfl) (by kernel_rfl) (by kernel_rfl) (fun _ _ _ h => h) (Or.inl ⟨by kernel_rfl, ?_⟩) hH ?_
          · intro W hS
            go_simp
            try rfl
          try simp only [Act.put, List.setIfInBounds_toArray, List.set_cons_zero, List.set_cons_succ, List.getElem_toArray, List.getElem_cons_succ, List.getElem_cons_zero]
          refine wpAnyH_ready (rs := [14]) (by kernel_rfl) (by simp) ?_
          refine AllReadyH.cons rfl (fun K hK => ?_) AllReadyH.nil
          refine want_plain rfl ?_
          refine wp_store_row _ _ _ rfl N1 (stA (setb g j v)) rfl rfl 44 #[.int .u32 0, .int .u32 0, .int .u32 0, .int .u32 0, .int .u32 0, .int .u32 0, .int .u32 0, .int .u32 0, .int .u32 0, .bool false, .bool false, .bool false, .bool false, .bool false, .bool false, .bool false, .int .u64 0] kU.h szS rfl (stA_all _) ?_
          have bx := (But.refl [N1] Wx4.heap.size Wx4).setRow (g := N1) (by simp) (stA (setb g j v))
          replace kU := kU.row (stA (setb g j v))
          replace kS := kS.but bx kS.lt (by have := mU.out; simp; omega)
          replace hH := hH.but bx hH.lt (by have := tU.out; simp; omega)
          replace kF := kF.but bx kF.lt (by have := uf.out; simp; omega)
          replace p := p.store bx nU.out
          clear bx
          generalize Wx4.setRow N1 (stA (setb g j v)) = Wx5 at *
          refine hK.out _ _ hH (fun _ => ?_)
          clear hK K
          try simp only [Act.put, List.setIfInBounds_toArray, List.set_cons_zero, List.set_cons_succ, List.getElem_toArray, List.getElem_cons_succ, List.getElem_cons_zero]
          refine wpAnyH_ready (rs := [15]) (by kernel_rfl) (by simp) ?_
          refine AllReadyH.cons rfl (fun K hK => ?_) AllReadyH.nil
          refine want_plain rfl ?_
          refine wp_store_row _ _ _ rfl N2 #[.int .i64 0, .int .u32 0, .int .u32 0, .int .i64 0] rfl rfl 32 #[.int .i64 0, .int .u32 0, .int .u32 0, .int .i64 0] kF.h szF rfl (by simp [Value.oneCell']) ?_
          have bx := (But.refl [N2] Wx5.heap.size Wx5).setRow (g := N2) (by simp) #[.int .i64 0, .int .u32 0, .int .u32 0, .int .i64 0]
          clear kF
          replace kS := kS.but bx kS.lt (by have := mF.out; simp; omega)
          replace hH := hH.but bx hH.lt (by have := tF.out; simp; omega)
          replace kU := kU.but bx kU.lt (by have := uf.out; simp; omega)
          replace p := p.store bx nF.out
          clear bx
          generalize Wx5.setRow N2 #[.int .i64 0, .int .u32 0, .int .u32 0, .int .i64 0] = Wx6 at *
          refine hK.out _ _ hH (fun _ => ?_)
          clear hK K
          try simp only [Act.put, List.setIfInBounds_toArray, List.set_cons_zero, List.set_cons_succ, List.getElem_toArray, List.getElem_cons_succ, List.getElem_cons_zero]
          refine wpAnyH_take (i := 16) (v := ?_) rfl (by kernel_rfl) (by kernel_rfl) (by kernel_rfl) (fun _ _ _ h => h) (Or.inl ⟨by kernel_rfl, ?_⟩) hH ?_
          rotate_left
          · intro W hS
            go_simp
            try rfl
          try simp only [Act.put, List.setIfInBounds_toArray, List.set_cons_zero, List.set_cons_succ, List.getElem_toArray, List.getElem_cons_succ, List.getElem_cons_zero]
          refine wpAnyH_done (by kernel_rfl) ?_ _
          exact ⟨N1, N2, by kernel_rfl, kS, kU, p, nU.out, mU.out⟩
      · go_simp
        have kU := Blk.new Wx1 44 #[.int .u32 0, .int .u32 0, .int .u32 0, .int .u32 0, .int .u32 0, .int .u32 0, .int .u32 0, .int .u32 0, .int .u32 0, .bool false, .bool false, .bool false, .bool false, .bool false, .bool false, .bool false, .int .u64 0]
        have nU := Lib.hid (show B < Wx1.heap.size from p.h.lt)
        have mU := Lib.hid (show w.heap.size < Wx1.heap.size from kS.lt)
        have tU := Lib.hid (show T < Wx1.heap.size from hH.lt)
        have uf := Lib.hid (show N2 ≠ Wx1.heap.size from Nat.ne_of_lt kF.lt)
        have bx := (Below.refl Wx1.heap.size Wx1).alloc (Nat.le_refl _) (.cells #[.int .u32 0, .int .u32 0, .int .u32 0, .int .u32 0, .int .u32 0, .int .u32 0, .int .u32 0, .int .u32 0, .int .u32 0, .bool false, .bool false, .bool false, .bool false, .bool false, .bool false, .bool false, .int .u64 0] 44)
        replace kS := kS.below bx kS.lt
        replace hH := hH.below bx hH.lt
        replace kF := kF.below bx kF.lt
        replace p := p.below bx
        clear bx
        generalize Wx1.alloc (.cells #[.int .u32 0, .int .u32 0, .int .u32 0, .int .u32 0, .int .u32 0, .int .u32 0, .int .u32 0, .int .u32 0, .int .u32 0, .bool false, .bool false, .bool false, .bool false, .bool false, .bool false, .bool false, .int .u64 0] 44) = Wx2 at *
        generalize Wx1.heap.size = N1 at *
        refine hK.out _ _ hH (fun _ => ?_)
        clear hK K
        try simp only [Act.put, List.setIfInBounds_toArray, List.set_cons_zero, List.set_cons_succ, List.getElem_toArray, List.getElem_cons_succ, List.getElem_cons_zero]
        refine wpAnyH_ready (rs := [5]) (by kernel_rfl) (by simp) ?_
        refine AllReadyH.cons rfl (fun K hK => ?_) AllReadyH.nil
        go_simp
        with_reducible refine (hR.out _).mono ?_
        rintro e Wx3 ⟨rfl, bx⟩
        replace kS := kS.below bx kS.lt
        replace hH := hH.below bx hH.lt
        replace kU := kU.below bx kU.lt
        replace kF := kF.below bx kF.lt
        replace p := p.below bx
        clear bx
        refine hK.out _ _ hH (fun _ => ?_)
        clear hK K
        try simp only [Act.put, List.setIfInBounds_toArray, List.set_cons_zero, List.set_cons_succ, List.getElem_toArray, List.getElem_cons_succ, List.getElem_cons_zero]
        refine wpAnyH_ready (rs := [7]) (by kernel_rfl) (by simp) ?_
        refine AllReadyH.cons rfl (fun K hK => ?_) AllReadyH.nil
        go_simp
        with_reducible refine (b_set p g hg hj v hv).mono ?_
        clear p
        rintro e Wx4 ⟨rfl, p, bx⟩
        replace kS := kS.but bx kS.lt (by have := nB.out; simp; omega)
        replace hH := hH.but bx hH.lt (by have := nT.out; simp; omega)
        replace kU := kU.but bx kU.lt (by have := nU.out; simp; omega)
        replace kF := kF.but bx kF.lt (by have := nF.out; simp; omega)
        clear bx
        refine hK.out _ _ hH (fun _ => ?_)
        clear hK K
        try simp only [Act.put, List.setIfInBounds_toArray, List.set_cons_zero, List.set_cons_succ, List.getElem_toArray, List.getElem_cons_succ, List.getElem_cons_zero]
        refine wpAnyH_take (i := 8) (v := .tuple #[stV (setb g j v), fltV 0 0 0 0, .bool true]) rfl (by kernel_rfl) (by kernel_rfl) (by kernel_rfl) (fun _ _ _ h => h) (Or.inl ⟨by kernel_rfl, ?_⟩) hH ?_
        · intro W hS
          go_simp
          try rfl
        try simp only [Act.put, List.setIfInBounds_toArray, List.set_cons_zero, List.set_cons_succ, List.getElem_toArray, List.getElem_cons_succ, List.getElem_cons_zero]
        refine wpAnyH_take (i := 9) (v := stV (setb g j v)) rfl (by kernel_rfl) (by kernel_rfl) (by kernel_rfl) (fun _ _ _ h => h) (Or.inl ⟨by kernel_rfl, ?_⟩) hH ?_
        · intro W hS
          go_simp
          try rfl
        try simp only [Act.put, List.setIfInBounds_toArray, List.set_cons_zero, List.set_cons_succ, List.getElem_toArray, List.getElem_cons_succ, List.getElem_cons_zero]
        refine wpAnyH_take (i := 10) (v := fltV 0 0 0 0) rfl (by kernel_rfl) (by kernel_rfl) (by kernel_rfl) (fun _ _ _ h => h) (Or.inl ⟨by kernel_rfl, ?_⟩) hH ?_
        · intro W hS
          go_simp
          try rfl
        try simp only [Act.put, List.setIfInBounds_toArray, List.set_cons_zero, List.set_cons_succ, List.getElem_toArray, List.getElem_cons_succ, List.getElem_cons_zero]
        refine wpAnyH_take (i := 11) (v := .bool true) rfl (by kernel_rfl) (by kernel_rfl) (by kernel_rfl) (fun _ _ _ h => h) (Or.inl ⟨by kernel_rfl, ?_⟩) hH ?_
        · intro W hS
          go_simp
          try rfl
        try simp only [Act.put, List.setIfInBounds_toArray, List.set_cons_zero, List.set_cons_succ, List.getElem_toArray, List.getElem_cons_succ, List.getElem_cons_zero]
        refine wpAnyH_ready (rs := [14]) (by kernel_rfl) (by simp) ?_
        refine AllReadyH.cons rfl (fun K hK => ?_) AllReadyH.nil
        refine want_plain rfl ?_
        refine wp_store_row _ _ _ rfl N1 (stA (setb g j v)) rfl rfl 44 #[.int .u32 0, .int .u32 0, .int .u32 0, .int .u32 0, .int .u32 0, .int .u32 0, .int .u32 0, .int .u32 0, .int .u32 0, .bool false, .bool false, .bool false, .bool false, .bool false, .bool false, .bool false, .int .u64 0] kU.h szS rfl (stA_all _) ?_
        have bx := (But.refl [N1] Wx4.heap.size Wx4).setRow (g := N1) (by simp) (stA (setb g j v))
        replace kU := kU.row (stA (setb g j v))
        replace kS := kS.but bx kS.lt (by have := mU.out; simp; omega)
        replace hH := hH.but bx hH.lt (by have := tU.out; simp; omega)
        replace kF := kF.but bx kF.lt (by have := uf.out; simp; omega)
        replace p := p.store bx nU.out
        clear bx
        generalize Wx4.setRow N1 (stA (setb g j v)) = Wx5 at *
        refine hK.out _ _ hH (fun _ => ?_)
        clear hK K
        try simp only [Act.put, List.setIfInBounds_toArray, List.set_cons_zero, List.set_cons_succ, List.getElem_toArray, List.getElem_cons_succ, List.getElem_cons_zero]
        refine wpAnyH_ready (rs := [15]) (by kernel_rfl) (by simp) ?_
        refine AllReadyH.cons rfl (fun K hK => ?_) AllReadyH.nil
        refine want_plain rfl ?_
        refine wp_store_row _ _ _ rfl N2 #[.int .i64 0, .int .u32 0, .int .u32 0, .int .i64 0] rfl rfl 32 #[.int .i64 0, .int .u32 0, .int .u32 0, .int .i64 0] kF.h szF rfl (by simp [Value.oneCell']) ?_
        have bx := (But.refl [N2] Wx5.heap.size Wx5).setRow (g := N2) (by simp) #[.int .i64 0, .int .u32 0, .int .u32 0, .int .i64 0]
        clear kF
        replace kS := kS.but bx kS.lt (by have := mF.out; simp; omega)
        replace hH := hH.but bx hH.lt (by have := tF.out; simp; omega)
        replace kU := kU.but bx kU.lt (by have := uf.out; simp; omega)
        replace p := p.store bx nF.out
        clear bx
        generalize Wx5.setRow N2 #[.int .i64 0, .int .u32 0, .int .u32 0, .int .i64 0] = Wx6 at *
        refine hK.out _ _ hH (fun _ => ?_)
        clear hK K
        try simp only [Act.put, List.setIfInBounds_toArray, List.set_cons_zero, List.set_cons_succ, List.getElem_toArray, List.getElem_cons_succ, List.getElem_cons_zero]
        refine wpAnyH_take (i := 16) (v := ?_) rfl (by kernel_rfl) (by kernel_rfl) (by kernel_rfl) (fun _ _ _ h => h) (Or.inl ⟨by kernel_rfl, ?_⟩) hH ?_
        rotate_left
        · intro W hS
          go_simp
          try rfl
        try simp only [Act.put, List.setIfInBounds_toArray, List.set_cons_zero, List.set_cons_succ, List.getElem_toArray, List.getElem_cons_succ, List.getElem_cons_zero]
        refine wpAnyH_done (by kernel_rfl) ?_ _
        exact ⟨N1, N2, by kernel_rfl, kS, kU, p, nU.out, mU.out⟩
  rintro a' Wq ⟨N1, N2, rfl, kS, kU, p, nU, mU⟩
  simp only [Act.put, List.setIfInBounds_toArray, List.set_cons_zero, List.set_cons_succ]
  go_upto_region 11 with fail
  refine cut_at (fun a a' w' => ∃ N2, a' = ((((((((((((((a.put (some 81) (mp B)).put (some 82) (stV (setb g j v))).put (some 83) (.int .u8 a1)).put (some 84) (.int .u8 (j : Int))).put (some 85) (.int .i64 (j : Int))).put (some 86) (opV ⟨1, j, 0, 0, 0, 0⟩)).put (some 87) (.tuple #[.int .u32 (v % 256), fltV 0 0 0 0, .bool true])).put (some 80) (.tuple #[.int .u32 (v % 256), fltV 0 0 0 0, .bool true])).put (some 88) (.int .u32 (v % 256))).put (some 89) (fltV 0 0 0 0)).put (some 90) (.bool true)).put (some 25) (.pointer (some ⟨N2, 0, none⟩))).put (some 24) (.int .u32 (v % 256))).put (some 26) (.bool true)) ∧ Blk w' w.heap.size 44 (stA g) ∧ Blk w' N1 44 (stA (setb g j v)) ∧ Pg B W1 w' B M) ?_ ?_
  rotate_left
  · have hR := Lib.hid (fun W => reg_b (j : Int) W)
    refine wp_region_held_drew (S := fun V => Blk V N1 44 (stA (setb g j v))) (by kernel_rfl) kU.drew (fun hH => ?_)
    replace kS := kS.drew
    replace p := p.below (Below.refl Wq.heap.size Wq).drew
    clear kU hK hNew hA Hb HB hx w2
    have HnU := Lib.hid nU
    have HmU := Lib.hid mU
    clear nU mU
    generalize Wq.drew = W at *
    refine wpAnyH_take (i := 0) (v := ?_) rfl (by kernel_rfl) (by kernel_rfl) (by kernel_rfl) (fun _ _ _ h => h) (Or.inl ⟨by kernel_rfl, ?_⟩) hH ?_
    rotate_left
    · intro W hS
      go_simp
      try rfl
    try simp only [Act.put, List.setIfInBounds_toArray, List.set_cons_zero, List.set_cons_succ, List.getElem_toArray, List.getElem_cons_succ, List.getElem_cons_zero]
    refine wpAnyH_take (i := 1) (v := stV (setb g j v)) rfl (by kernel_rfl) (by kernel_rfl) (by kernel_rfl) (fun _ _ _ h => h) (Or.inl ⟨by kernel_rfl, ?_⟩) hH ?_
    · intro W hS
      exact run_load_row (by rfl) (by rfl) 44 _ (0, 0) _ hS.h Try.underlying44 rfl szS
    try simp only [Act.put, List.setIfInBounds_toArray, List.set_cons_zero, List.set_cons_succ, List.getElem_toArray, List.getElem_cons_succ, List.getElem_cons_zero]
    refine wpAnyH_take (i := 2) (v := ?_) rfl (by kernel_rfl) (by kernel_rfl) (by kernel_rfl) (fun _ _ _ h => h) (Or.inl ⟨by kernel_rfl, ?_⟩) hH ?_
    rotate_left
    · intro W hS
      go_simp
      try rfl
    try simp only [Act.put, List.setIfInBounds_toArray, List.set_cons_zero, List.set_cons_succ, List.getElem_toArray, List.getElem_cons_succ, List.getElem_cons_zero]
    refine wpAnyH_take (i := 3) (v := .int .u8 (j : Int)) rfl (by kernel_rfl) (by kernel_rfl) (by kernel_rfl) (fun _ _ _ h => h) (Or.inl ⟨by kernel_rfl, ?_⟩) hH ?_
    · intro W hS
      go_simp
      rw [Int.tmod_eq_emod_of_nonneg w1.1, e1]
    try simp only [Act.put, List.setIfInBounds_toArray, List.set_cons_zero, List.set_cons_succ, List.getElem_toArray, List.getElem_cons_succ, List.getElem_cons_zero]
    refine wpAnyH_take (i := 4) (v := .int .i64 (j : Int)) rfl (by kernel_rfl) (by kernel_rfl) (by kernel_rfl) (fun _ _ _ h => h) (Or.inl ⟨by kernel_rfl, ?_⟩) hH ?_
    · intro W hS
      go_simp
      rw [IntKind.wrap_i64]
      omega
    try simp only [Act.put, List.setIfInBounds_toArray, List.set_cons_zero, List.set_cons_succ, List.getElem_toArray, List.getElem_cons_succ, List.getElem_cons_zero]
    refine wpAnyH_ready (rs := [5, 11]) (by kernel_rfl) (by simp) ?_
    refine AllReadyH.cons rfl (fun K hK => ?_) (AllReadyH.cons rfl (fun K hK => ?_) AllReadyH.nil)
    · go_simp
      with_reducible refine (hR.out _).mono ?_
      rintro e Wx1 ⟨rfl, bx⟩
      replace kS := kS.below bx kS.lt
      replace hH := hH.below bx hH.lt
      replace p := p.below bx
      clear bx
      refine hK.out _ _ hH (fun _ => ?_)
      clear hK K
      try simp only [Act.put, List.setIfInBounds_toArray, List.set_cons_zero, List.set_cons_succ, List.getElem_toArray, List.getElem_cons_succ, List.getElem_cons_zero]
      refine wpAnyH_ready (rs := [6, 11]) (by kernel_rfl) (by simp) ?_
      refine AllReadyH.cons rfl (fun K hK => ?_) (AllReadyH.cons rfl (fun K hK => ?_) AllReadyH.nil)
      · go_simp
        with_reducible refine (b_get p g hg hj v).mono ?_
        clear p
        rintro e Wx2 ⟨rfl, p, bx⟩
        replace kS := kS.below bx kS.lt
        replace hH := hH.below bx hH.lt
        clear bx
        refine hK.out _ _ hH (fun _ => ?_)
        clear hK K
        try simp only [Act.put, List.setIfInBounds_toArray, List.set_cons_zero, List.set_cons_succ, List.getElem_toArray, List.getElem_cons_succ, List.getElem_cons_zero]
        refine wpAnyH_take (i := 7) (v := .tuple #[.int .u32 (v % 256), fltV 0 0 0 0, .bool true]) rfl (by kernel_rfl) (by kernel_rfl) (by kernel_rfl) (fun _ _ _ h => h) (Or.inl ⟨by kernel_rfl, ?_⟩) hH ?_
        · intro W hS
          go_simp
          try rfl
        try simp only [Act.put, List.setIfInBounds_toArray, List.set_cons_zero, List.set_cons_succ, List.getElem_toArray, List.getElem_cons_succ, List.getElem_cons_zero]
        refine wpAnyH_take (i := 8) (v := .int .u32 (v % 256)) rfl (by kernel_rfl) (by kernel_rfl) (by kernel_rfl) (fun _ _ _ h => h) (Or.inl ⟨by kernel_rfl, ?_⟩) hH ?_
        · intro W hS
          go_simp
          try rfl
        try simp only [Act.put, List.setIfInBounds_toArray, List.set_cons_zero, List.set_cons_succ, List.getElem_toArray, List.getElem_cons_succ, List.getElem_cons_zero]
        refine wpAnyH_take (i := 9) (v := fltV 0 0 0 0) rfl (by kernel_rfl) (by kernel_rfl) (by kernel_rfl) (fun _ _ _ h => h) (Or.inl ⟨by kernel_rfl, ?_⟩) hH ?_
        · intro W hS
          go_simp
          try rfl
        try simp only [Act.put, List.setIfInBounds_toArray, List.set_cons_zero, List.set_cons_succ, List.getElem_toArray, List.getElem_cons_succ, List.getElem_cons_zero]
        refine wpAnyH_take (i := 10) (v := .bool true) rfl (by kernel_rfl) (by kernel_rfl) (by kernel_rfl) (fun _ _ _ h => h) (Or.inl ⟨by kernel_rfl, ?_⟩) hH ?_
        · intro W hS
          go_simp
          try rfl
        try simp only [Act.put, List.setIfInBounds_toArray, List.set_cons_zero, List.set_cons_succ, List.getElem_toArray, List.getElem_cons_succ, List.getElem_cons_zero]
        refine wpAnyH_ready (rs := [11]) (by kernel_rfl) (by simp) ?_
        refine AllReadyH.cons rfl (fun K hK => ?_) AllReadyH.nil
        go_simp
        have kF := Blk.new Wx2 32 #[.int .i64 0, .int .u32 0, .int .u32 0, .int .i64 0]
        have nF := Lib.hid (show B < Wx2.heap.size from p.h.lt)
        have mF := Lib.hid (show w.heap.size < Wx2.heap.size from kS.lt)
        have tF := Lib.hid (show N1 < Wx2.heap.size from hH.lt)
        have bx := (Below.refl Wx2.heap.size Wx2).alloc (Nat.le_refl _) (.cells #[.int .i64 0, .int .u32 0, .int .u32 0, .int .i64 0] 32)
        replace kS := kS.below bx kS.lt
        replace hH := hH.below bx hH.lt
        replace p := p.below bx
        clear bx
        generalize Wx2.alloc (.cells #[.int .i64 0, .int .u32 0, .int .u32 0, .int .i64 0] 32) = Wx3 at *
        generalize Wx2.heap.size = N2 at *
        refine hK.out _ _ hH (fun _ => ?_)
        clear hK K
        try simp only [Act.put, List.setIfInBounds_toArray, List.set_cons_zero, List.set_cons_succ, List.getElem_toArray, List.getElem_cons_succ, List.getElem_cons_zero]
        refine wpAnyH_take (i := 12) (v := ?_) rfl (by kernel_rfl) (by kernel_rfl) (by kernel_rfl) (fun _ _ _ h => h) (Or.inl ⟨by kernel_rfl, ?_⟩) hH ?_
        rotate_left
        · intro W hS
          go_simp
          try rfl
        try simp only [Act.put, List.setIfInBounds_toArray, List.set_cons_zero, List.set_cons_succ, List.getElem_toArray, List.getElem_cons_succ, List.getElem_cons_zero]
        refine wpAnyH_ready (rs := [13]) (by kernel_rfl) (by simp) ?_
        refine AllReadyH.cons rfl (fun K hK => ?_) AllReadyH.nil
        refine want_plain rfl ?_
        refine wp_store_row _ _ _ rfl N2 #[.int .i64 0, .int .u32 0, .int .u32 0, .int .i64 0] rfl rfl 32 #[.int .i64 0, .int .u32 0, .int .u32 0, .int .i64 0] kF.h szF rfl (by simp [Value.oneCell']) ?_
        have bx := (But.refl [N2] Wx3.heap.size Wx3).setRow (g := N2) (by simp) #[.int .i64 0, .int .u32 0, .int .u32 0, .int .i64 0]
        clear kF
        replace kS := kS.but bx kS.lt (by have := mF.out; simp; omega)
        replace hH := hH.but bx hH.lt (by have := tF.out; simp; omega)
        replace p := p.store bx nF.out
        clear bx
        generalize Wx3.setRow N2 #[.int .i64 0, .int .u32 0, .int .u32 0, .int .i64 0] = Wx4 at *
        refine hK.out _ _ hH (fun _ => ?_)
        clear hK K
        try simp only [Act.put, List.setIfInBounds_toArray, List.set_cons_zero, List.set_cons_succ, List.getElem_toArray, List.getElem_cons_succ, List.getElem_cons_zero]
        refine wpAnyH_take (i := 14) (v := ?_) rfl (by kernel_rfl) (by kernel_rfl) (by kernel_rfl) (fun _ _ _ h => h) (Or.inl ⟨by kernel_rfl, ?_⟩) hH ?_
        rotate_left
        · intro W hS
          go_simp
          try rfl
        try simp only [Act.put, List.setIfInBounds_toArray, List.set_cons_zero, List.set_cons_succ, List.getElem_toArray, List.getElem_cons_succ, List.getElem_cons_zero]
        refine wpAnyH_done (by kernel_rfl) ?_ _
        exact ⟨N2, by kernel_rfl, kS, hH, p⟩
      · go_simp
        have kF := Blk.new Wx1 32 #[.int .i64 0, .int .u32 0, .int .u32 0, .int .i64 0]
        have nF := Lib.hid (show B < Wx1.heap.size from p.h.lt)
        have mF := Lib.hid (show w.heap.size < Wx1.heap.size from kS.lt)
        have tF := Lib.hid (show N1 < Wx1.heap.size from hH.lt)
        have bx := (Below.refl Wx1.heap.size Wx1).alloc (Nat.le_refl _) (.cells #[.int .i64 0, .int .u32 0, .int .u32 0, .int .i64 0] 32)
        replace kS := kS.below bx kS.lt
        replace hH := hH.below bx hH.lt
        replace p := p.below bx
        clear bx
        generalize Wx1.alloc (.cells #[.int .i64 0, .int .u32 0, .int .u32 0, .int .i64 0] 32) = Wx2 at *
        generalize Wx1.heap.size = N2 at *
        refine hK.out _ _ hH (fun _ => ?_)
        clear hK K
        try simp only [Act.put, List.setIfInBounds_toArray, List.set_cons_zero, List.set_cons_succ, List.getElem_toArray, List.getElem_cons_succ, List.getElem_cons_zero]
        refine wpAnyH_ready (rs := [6]) (by kernel_rfl) (by simp) ?_
        refine AllReadyH.cons rfl (fun K hK => ?_) AllReadyH.nil
        go_simp
        with_reducible refine (b_get p g hg hj v).mono ?_
        clear p
        rintro e Wx3 ⟨rfl, p, bx⟩
        replace kS := kS.below bx kS.lt
        replace hH := hH.below bx hH.lt
        replace kF := kF.below bx kF.lt
        clear bx
        refine hK.out _ _ hH (fun _ => ?_)
        clear hK K
        try simp only [Act.put, List.setIfInBounds_toArray, List.set_cons_zero, List.set_cons_succ, List.getElem_toArray, List.getElem_cons_succ, List.getElem_cons_zero]
        refine wpAnyH_take (i := 7) (v := .tuple #[.int .u32 (v % 256), fltV 0 0 0 0, .bool true]) rfl (by kernel_rfl) (by kernel_rfl) (by kernel_rfl) (fun _ _ _ h => h) (Or.inl ⟨by kernel_rfl, ?_⟩) hH ?_
        · intro W hS
          go_simp
          try rfl
        try simp only [Act.put, List.setIfInBounds_toArray, List.set_cons_zero, List.set_cons_succ, List.getElem_toArray, List.getElem_cons_succ, List.getElem_cons_zero]
        refine wpAnyH_take (i := 8) (v := .int .u32 (v % 256)) rfl (by kernel_rfl) (by kernel_rfl) (by kernel_rfl) (fun _ _ _ h => h) (Or.inl ⟨by kernel_rfl, ?_⟩) hH ?_
        · intro W hS
          go_simp
          try rfl
        try simp only [Act.put, List.setIfInBounds_toArray, List.set_cons_zero, List.set_cons_succ, List.getElem_toArray, List.getElem_cons_succ, List.getElem_cons_zero]
        refine wpAnyH_take (i := 9) (v := fltV 0 0 0 0) rfl (by kernel_rfl) (by kernel_rfl) (by kernel_rfl) (fun _ _ _ h => h) (Or.inl ⟨by kernel_rfl, ?_⟩) hH ?_
        · intro W hS
          go_simp
          try rfl
        try simp only [Act.put, List.setIfInBounds_toArray, List.set_cons_zero, List.set_cons_succ, List.getElem_toArray, List.getElem_cons_succ, List.getElem_cons_zero]
        refine wpAnyH_take (i := 10) (v := .bool true) rfl (by kernel_rfl) (by kernel_rfl) (by kernel_rfl) (fun _ _ _ h => h) (Or.inl ⟨by kernel_rfl, ?_⟩) hH ?_
        · intro W hS
          go_simp
          try rfl
        try simp only [Act.put, List.setIfInBounds_toArray, List.set_cons_zero, List.set_cons_succ, List.getElem_toArray, List.getElem_cons_succ, List.getElem_cons_zero]
        refine wpAnyH_take (i := 12) (v := ?_) rfl (by kernel_rfl) (by kernel_rfl) (by kernel_rfl) (fun _ _ _ h => h) (Or.inl ⟨by kernel_rfl, ?_⟩) hH ?_
        rotate_left
        · intro W hS
          go_simp
          try rfl
        try simp only [Act.put, List.setIfInBounds_toArray, List.set_cons_zero, List.set_cons_succ, List.getElem_toArray, List.getElem_cons_succ, List.getElem_cons_zero]
        refine wpAnyH_ready (rs := [13]) (by kernel_rfl) (by simp) ?_
        refine AllReadyH.cons rfl (fun K hK => ?_) AllReadyH.nil
        refine want_plain rfl ?_
        refine wp_store_row _ _ _ rfl N2 #[.int .i64 0, .int .u32 0, .int .u32 0, .int .i64 0] rfl rfl 32 #[.int .i64 0, .int .u32 0, .int .u32 0, .int .i64 0] kF.h szF rfl (by simp [Value.oneCell']) ?_
        have bx := (But.refl [N2] Wx3.heap.size Wx3).setRow (g := N2) (by simp) #[.int .i64 0, .int .u32 0, .int .u32 0, .int .i64 0]
        clear kF
        replace kS := kS.but bx kS.lt (by have := mF.out; simp; omega)
        replace hH := hH.but bx hH.lt (by have := tF.out; simp; omega)
        replace p := p.store bx nF.out
        clear bx
        generalize Wx3.setRow N2 #[.int .i64 0, .int .u32 0, .int .u32 0, .int .i64 0] = Wx4 at *
        refine hK.out _ _ hH (fun _ => ?_)
        clear hK K
        try simp only [Act.put, List.setIfInBounds_toArray, List.set_cons_zero, List.set_cons_succ, List.getElem_toArray, List.getElem_cons_succ, List.getElem_cons_zero]
        refine wpAnyH_take (i := 14) (v := ?_) rfl (by kernel_rfl) (by kernel_rfl) (by kernel_rfl) (fun _ _ _ h => h) (Or.inl ⟨by kernel_rfl, ?_⟩) hH ?_
        rotate_left
        · intro W hS
          go_simp
          try rfl
        try simp only [Act.put, List.setIfInBounds_toArray, List.set_cons_zero, List.set_cons_succ, List.getElem_toArray, List.getElem_cons_succ, List.getElem_cons_zero]
        refine wpAnyH_done (by kernel_rfl) ?_ _
        exact ⟨N2, by kernel_rfl, kS, hH, p⟩
    · go_simp
      have kF := Blk.new W 32 #[.int .i64 0, .int .u32 0, .int .u32 0, .int .i64 0]
      have nF := Lib.hid (show B < W.heap.size from p.h.lt)
      have mF := Lib.hid (show w.heap.size < W.heap.size from kS.lt)
      have tF := Lib.hid (show N1 < W.heap.size from hH.lt)
      have bx := (Below.refl W.heap.size W).alloc (Nat.le_refl _) (.cells #[.int .i64 0, .int .u32 0, .int .u32 0, .int .i64 0] 32)
      replace kS := kS.below bx kS.lt
      replace hH := hH.below bx hH.lt
      replace p := p.below bx
      clear bx
      generalize W.alloc (.cells #[.int .i64 0, .int .u32 0, .int .u32 0, .int .i64 0] 32) = Wx1 at *
      generalize W.heap.size = N2 at *
      refine hK.out _ _ hH (fun _ => ?_)
      clear hK K
      try simp only [Act.put, List.setIfInBounds_toArray, List.set_cons_zero, List.set_cons_succ, List.getElem_toArray, List.getElem_cons_succ, List.getElem_cons_zero]
      refine wpAnyH_ready (rs := [5]) (by kernel_rfl) (by simp) ?_
      refine AllReadyH.cons rfl (fun K hK => ?_) AllReadyH.nil
      go_simp
      with_reducible refine (hR.out _).mono ?_
      rintro e Wx2 ⟨rfl, bx⟩
      replace kS := kS.below bx kS.lt
      replace hH := hH.below bx hH.lt
      replace kF := kF.below bx kF.lt
      replace p := p.below bx
      clear bx
      refine hK.out _ _ hH (fun _ => ?_)
      clear hK K
      try simp only [Act.put, List.setIfInBounds_toArray, List.set_cons_zero, List.set_cons_succ, List.getElem_toArray, List.getElem_cons_succ, List.getElem_cons_zero]
      refine wpAnyH_ready (rs := [6]) (by kernel_rfl) (by simp) ?_
      refine AllReadyH.cons rfl (fun K hK => ?_) AllReadyH.nil
      go_simp
      with_reducible refine (b_get p g hg hj v).mono ?_
      clear p
      rintro e Wx3 ⟨rfl, p, bx⟩
      replace kS := kS.below bx kS.lt
      replace hH := hH.below bx hH.lt
      replace kF := kF.below bx kF.lt
      clear bx
      refine hK.out _ _ hH (fun _ => ?_)
      clear hK K
      try simp only [Act.put, List.setIfInBounds_toArray, List.set_cons_zero, List.set_cons_succ, List.getElem_toArray, List.getElem_cons_succ, List.getElem_cons_zero]
      refine wpAnyH_take (i := 7) (v := .tuple #[.int .u32 (v % 256), fltV 0 0 0 0, .bool true]) rfl (by kernel_rfl) (by kernel_rfl) (by kernel_rfl) (fun _ _ _ h => h) (Or.inl ⟨by kernel_rfl, ?_⟩) hH ?_
      · intro W hS
        go_simp
        try rfl
      try simp only [Act.put, List.setIfInBounds_toArray, List.set_cons_zero, List.set_cons_succ, List.getElem_toArray, List.getElem_cons_succ, List.getElem_cons_zero]
      refine wpAnyH_take (i := 8) (v := .int .u32 (v % 256)) rfl (by kernel_rfl) (by kernel_rfl) (by kernel_rfl) (fun _ _ _ h => h) (Or.inl ⟨by kernel_rfl, ?_⟩) hH ?_
      · intro W hS
        go_simp
        try rfl
      try simp only [Act.put, List.setIfInBounds_toArray, List.set_cons_zero, List.set_cons_succ, List.getElem_toArray, List.getElem_cons_succ, List.getElem_cons_zero]
      refine wpAnyH_take (i := 9) (v := fltV 0 0 0 0) rfl (by kernel_rfl) (by kernel_rfl) (by kernel_rfl) (fun _ _ _ h => h) (Or.inl ⟨by kernel_rfl, ?_⟩) hH ?_
      · intro W hS
        go_simp
        try rfl
      try simp only [Act.put, List.setIfInBounds_toArray, List.set_cons_zero, List.set_cons_succ, List.getElem_toArray, List.getElem_cons_succ, List.getElem_cons_zero]
      refine wpAnyH_take (i := 10) (v := .bool true) rfl (by kernel_rfl) (by kernel_rfl) (by kernel_rfl) (fun _ _ _ h => h) (Or.inl ⟨by kernel_rfl, ?_⟩) hH ?_
      · intro W hS
        go_simp
        try rfl
      try simp only [Act.put, List.setIfInBounds_toArray, List.set_cons_zero, List.set_cons_succ, List.getElem_toArray, List.getElem_cons_succ, List.getElem_cons_zero]
      refine wpAnyH_take (i := 12) (v := ?_) rfl (by kernel_rfl) (by kernel_rfl) (by kernel_rfl) (fun _ _ _ h => h) (Or.inl ⟨by kernel_rfl, ?_⟩) hH ?_
      rotate_left
      · intro W hS
        go_simp
        try rfl
      try simp only [Act.put, List.setIfInBounds_toArray, List.set_cons_zero, List.set_cons_succ, List.getElem_toArray, List.getElem_cons_succ, List.getElem_cons_zero]
      refine wpAnyH_ready (rs := [13]) (by kernel_rfl) (by simp) ?_
      refine AllReadyH.cons rfl (fun K hK => ?_) AllReadyH.nil
      refine want_plain rfl ?_
      refine wp_store_row _ _ _ rfl N2 #[.int .i64 0, .int .u32 0, .int .u32 0, .int .i64 0] rfl rfl 32 #[.int .i64 0, .int .u32 0, .int .u32 0, .int .i64 0] kF.h szF rfl (by simp [Value.oneCell']) ?_
      have bx := (But.refl [N2] Wx3.heap.size Wx3).setRow (g := N2) (by simp) #[.int .i64 0, .int .u32 0, .int .u32 0, .int .i64 0]
      clear kF
      replace kS := kS.but bx kS.lt (by have := mF.out; simp; omega)
      replace hH := hH.but bx hH.lt (by have := tF.out; simp; omega)
      replace p := p.store bx nF.out
      clear bx
      generalize Wx3.setRow N2 #[.int .i64 0, .int .u32 0, .int .u32 0, .int .i64 0] = Wx4 at *
      refine hK.out _ _ hH (fun _ => ?_)
      clear hK K
      try simp only [Act.put, List.setIfInBounds_toArray, List.set_cons_zero, List.set_cons_succ, List.getElem_toArray, List.getElem_cons_succ, List.getElem_cons_zero]
      refine wpAnyH_take (i := 14) (v := ?_) rfl (by kernel_rfl) (by kernel_rfl) (by kernel_rfl) (fun _ _ _ h => h) (Or.inl ⟨by kernel_rfl, ?_⟩) hH ?_
      rotate_left
      · intro W hS
        go_simp
        try rfl
      try simp only [Act.put, List.setIfInBounds_toArray, List.set_cons_zero, List.set_cons_succ, List.getElem_toArray, List.getElem_cons_succ, List.getElem_cons_zero]
      refine wpAnyH_done (by kernel_rfl) ?_ _
      exact ⟨N2, by kernel_rfl, kS, hH, p⟩
  rintro a' Wr ⟨N3, rfl, kS, kU, p⟩
  simp only [Act.put, List.setIfInBounds_toArray, List.set_cons_zero, List.set_cons_succ]
  clear nU mU
  have q12 := Lib.hid (b_imm p (setb g j v) v hv)
  go_upto_region 13 with (first | (with_reducible refine load_st rfl _ rfl N1 (stA (setb g j v)) rfl kU rfl ?_) | ((with_reducible refine q12.out.mono ?_); rintro e W13 ⟨rfl, p13, b13⟩))
  have a13 := b13.alloc b13.size (.cells #[.int .i64 0, .int .u32 0, .int .u32 0, .int .i64 0] 32)
  replace kS := kS.below a13 kS.lt
  replace kU := kU.below a13 kU.lt
  have p14 := p13.below ((Below.refl W13.heap.size W13).alloc (Nat.le_refl _) (.cells #[.int .i64 0, .int .u32 0, .int .u32 0, .int .i64 0] 32))
  clear q12 p p13 b13 a13
  generalize W13.alloc (.cells #[.int .i64 0, .int .u32 0, .int .u32 0, .int .i64 0] 32) = W14 at *
  generalize W13.heap.size = F3 at *
  have q14 := Lib.hid (b_none p14 (setb g j v))
  go_upto_region 14 with (first | (with_reducible refine load_st rfl _ rfl N1 (stA (setb g j v)) rfl kU rfl ?_) | ((with_reducible refine q14.out.mono ?_); rintro e W15 ⟨rfl, p15, b15⟩))
  have a15 := b15.alloc b15.size (.cells #[.int .i64 0, .int .u32 0, .int .u32 0, .int .i64 0] 32)
  replace kS := kS.below a15 kS.lt
  replace kU := kU.below a15 kU.lt
  have p16 := p15.below ((Below.refl W15.heap.size W15).alloc (Nat.le_refl _) (.cells #[.int .i64 0, .int .u32 0, .int .u32 0, .int .i64 0] 32))
  clear q14 p14 p15 b15 a15
  generalize W15.alloc (.cells #[.int .i64 0, .int .u32 0, .int .u32 0, .int .i64 0] 32) = W16 at *
  generalize W15.heap.size = F4 at *
  have cS := kS.cell (i := 8) (v := .int .u32 g.pc) rfl
  have cU := kU.cell (i := 8) (v := .int .u32 g.pc) rfl
  have h1 := andNot_low x hx
  have h2 := u32_and_low v hv
  have h3 := or_low x v hx
  go_wp2_with fail
  go_ret
  exact ⟨rfl, Hb.out.trans (p16.done.mono HB.out)⟩
end Go.Proofs.Ytmlaancmacipoaa
