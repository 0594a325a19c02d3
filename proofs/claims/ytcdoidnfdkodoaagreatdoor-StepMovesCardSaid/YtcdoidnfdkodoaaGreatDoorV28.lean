import Derived.Test.YtcdoidnfdkodoaaGreatDoorV27
import Derived.Test.YtcdoidnfdkodoaaGreatDoorV25
import Derived.Test.YtcdoidnfdkodoaaGreatDoorS46
namespace Go.Proofs.YtcdoidnfdkodoaaGreatDoor
open Go.RowKit
set_option linter.unusedVariables false
set_option linter.unusedSimpArgs false
set_option linter.unusedSectionVars false
set_option maxRecDepth 100000 in
set_option maxHeartbeats 8000000 in
theorem moves_walk (g : Gs) (v c d : Int) (hv : 0 ≤ v ∧ v ≤ 4294967295) (wc : 0 ≤ c ∧ c ≤ 255) (wd : 0 ≤ d ∧ d ≤ 255) (j k : Nat) (hk : k < 8) (hj : j < 8) (ek : c % 8 = k) (ej : d % 8 = j) (gT gU gW gX gY gZ : Gs) (xv : Int)
    (hT : Hid (DoR mV g (iT v) gT (mW v))) (hU0 : Hid (DoR (mW v) gT (iU k) gU (mW v))) (hW0 : Hid (DoR (mW v) gT (iW j) gW (mW v))) (hX0 : Hid (DoR (mW v) gT (iX j) gX (mW v))) (hY0 : Hid (DoR (mW v) gU (iY k j) gY (mW v))) (hZ0 : Hid (DoR (mW v) gT (iZ k v) gZ (mW v)))
    (hU : gU.r k = v) (hW : gW.r j = v / 256 % 256) (hX : gX.r j = xv) (hY : gY.r j = v) (hN : k ≠ j → gY.r k = gT.r j) (hZ : gZ.r k = v) (hYf : gY.f = g.f) (hXf : gX.f = g.f) (hP : gT.pc = (g.pc + 10) % 4294967296)
    (hand : bits .and .u32 (v / 256) 255 = v / 256 % 256) (hc1 : IntKind.i32.wrap (IntKind.i8.wrap (v / 256)) = IntKind.i8.wrap (v / 256)) (hc2 : IntKind.u32.wrap (IntKind.i8.wrap (v / 256)) = xv) (w : World) (tabs : Tb w) :
    Calls Tryz.prog 10 #[stV g, .int .u32 v, .int .u8 c, .int .u8 d] w fun e w' => e = .returned (.bool true) ∧ Below w.heap.size w w' := by
  have b0 := (Below.refl w.heap.size w).alloc (Nat.le_refl _) (.cells (stA g) 29)
  have kS := Blk.new w 29 (stA g)
  have hK := Lib.hid (fun W (t : Tb W) => known13 W t)
  have hNew := Lib.hid (fun W => pNew W)
  have T0 := Lib.hid tabs
  have mV_map : mapE Mm.new 0 1 3 = true := by kernel_rfl
  have e0 : Int.tmod c 8 = k := by rw [Int.tmod_eq_emod_of_nonneg wc.1]; exact ek
  have e2 : Int.tmod d 8 = j := by rw [Int.tmod_eq_emod_of_nonneg wd.1]; exact ej
  clear tabs
  go_enter Tryz.func10, Tryz.ntmps10
  go_upto_region 1 with fail
  generalize w.alloc (.cells (stA g) 29) = W0 at *
  go_upto_region 3 with (first | ((with_reducible refine (hK.out _ (T0.out.below b0)).mono ?_); rintro e W1 ⟨rfl, b1⟩))
  replace kS := kS.below b1 kS.lt
  replace b1 := b0.trans (b1.mono b0.size)
  go_upto_region 4 with (first | ((with_reducible refine (hNew.out _).mono ?_); rintro e W2 ⟨rfl, p2⟩))
  have nB := Lib.hid (show w.heap.size < W1.heap.size from kS.lt)
  replace kS := kS.below p2.done kS.lt
  replace p2 : Pg w.heap.size w W2 W1.heap.size Mm.new := ⟨p2.h, p2.ok, (But.of b1 _).trans (p2.k.mono b1.size (by simp)), b1.size⟩
  generalize W1.heap.size = B at *
  clear b0 b1
  have q2 := Lib.hid (kp_map13 p2 0 1 3 (by decide) mV_map)
  go_upto_region 6 with (first | ((with_reducible refine q2.out.mono ?_); rintro e Wp ⟨rfl, p, b3⟩))
  replace kS := kS.but b3 kS.lt (by have := nB.out; simp; omega)
  replace p : Pg w.heap.size w Wp B mV := p
  clear p2 q2 b3 mV_map
  go_upto_region 7 with fail
  generalize hS0 : w.heap.size = S at *
  clear hK hNew e0 e2
  have hU1 := hU; have hX1 := hX; have hW1 := hW
  clear hU1 hX1 hW1
  have kk := Lib.hid (show ∀ x ∈ [(S, 29, stA g)], Blk Wp x.1 x.2.1 x.2.2 from List.forall_mem_cons.2 ⟨kS, fun x hx => by cases hx⟩)
  have ol := Lib.hid (show ∀ y ∈ [(S, 29, stA g)], y.1 ∉ [B] from List.forall_mem_cons.2 ⟨by have := nB.out; simp; omega, fun x hx => by cases hx⟩)
  clear kS
  refine wp_region_inv (F := ?_) (fun _ _ => False) (fun _ _ _ _ h => h.elim) [some 43, some 44, some 45, some 46, some 47, some 48, some 49, some 42, some 50, some 51, some 52, some 12, some 13, none, none, some 14] [some (mp B), some (stV g), some (opV ⟨3, 0, 16, -1, -1, 1⟩), some (.int .u32 v), some (opV ⟨2, 0, v, 0, 0, 0⟩), some (inV (iT v)), some (.tuple #[stV gT, fltV 0 0 0 0, .bool true]), some (.tuple #[stV gT, fltV 0 0 0 0, .bool true]), some (stV gT), some (fltV 0 0 0 0), some (.bool true), none, none, some undef, some undef, some (.bool true)] (RI (fun k W => Pg S w W B (bif k then (mW v) else mV)) B 6 16 [(S, 29, stA g)] [⟨11, 13, 29, #[.int .u32 0, .int .u32 0, .int .u32 0, .int .u32 0, .int .u32 0, .int .u32 0, .int .u32 0, .int .u32 0, .int .u32 0, .bool false, .bool false, .bool false, .bool false, .bool false, .bool false, .bool false, .int .u64 0], stA gT⟩, ⟨12, 14, 42, #[.int .i64 0, .int .u32 0, .int .u32 0, .int .i64 0], #[.int .i64 0, .int .u32 0, .int .u32 0, .int .i64 0]⟩]) (fun _ => 0) (by kernel_rfl) (by kernel_rfl) (fun s => ?_) (RI.start p.drew (fun x hx => (kk.out x hx).drew) _) ?_ (fun s Wq h => ?_)
  rotate_left
  · simp only [vsOf, putD, Act.put, Nat.reduceAdd, List.setIfInBounds_toArray, List.set_cons_zero, List.set_cons_succ]
    rfl
  · refine AllOps.cons ?_ (AllOps.cons ?_ (AllOps.cons ?_ (AllOps.cons ?_ (AllOps.cons ?_ (AllOps.cons ?_ (AllOps.cons ?_ (AllOps.cons ?_ (AllOps.cons ?_ (AllOps.cons ?_ (AllOps.cons ?_ (AllOps.cons ?_ (AllOps.cons ?_ (AllOps.cons ?_ (AllOps.cons ?_ (AllOps.cons ?_ AllOps.nil)))))))))))))))
    · refine ObOp.val (fun s => mp B) (by kernel_rfl) (fun _ => rfl) (fun s => by kernel_rfl) (fun s D w hd hcl h => ?_)
      go_simp
      try rfl
    · refine ObOp.val (fun s => stV g) (by kernel_rfl) (fun _ => rfl) (fun s => by kernel_rfl) (fun s D w hd hcl h => ?_)
      exact run_load_row (by rfl) (by rfl) 29 _ (0, 0) _ (h.k _ List.mem_cons_self).h Tryz.underlying29 rfl szS
    · refine ObOp.calls (gok13 S w B mV (mW v)) (fun s => opV ⟨3, 0, 16, -1, -1, 1⟩) (33) (fun s => #[.int .u32 16]) (by kernel_rfl) (fun _ => rfl) (fun s => by kernel_rfl) (fun s D w ha h => ?_) (fun s D w hd hcl h => ?_)
      · go_simp
        try rfl
      · exact mem13 16 _
    · refine ObOp.val (fun s => .int .u32 v) (by kernel_rfl) (fun _ => rfl) (fun s => by kernel_rfl) (fun s D w hd hcl h => ?_)
      go_simp
      try rfl
    · refine ObOp.calls (gok13 S w B mV (mW v)) (fun s => opV ⟨2, 0, v, 0, 0, 0⟩) (34) (fun s => #[.int .u32 v]) (by kernel_rfl) (fun _ => rfl) (fun s => by kernel_rfl) (fun s D w ha h => ?_) (fun s D w hd hcl h => ?_)
      · go_simp
        try rfl
      · exact imm13 v _
    · refine ObOp.val (fun s => inV (iT v)) (by kernel_rfl) (fun _ => rfl) (fun s => by kernel_rfl) (fun s D w hd hcl h => ?_)
      go_simp
      exact ⟨rfl, rfl, rfl, rfl, rfl, rfl, rfl, rfl, rfl, rfl, rfl, rfl, rfl, rfl, rfl, rfl⟩
    · refine ObOp.guest (Sx := [B]) (fun k hk => by simp at hk; omega) (fun s => .tuple #[stV gT, fltV 0 0 0 0, .bool true]) (19) (fun s => #[mp B, stV g, inV (iT v)]) (by kernel_rfl) ol.out (fun _ => rfl) (fun s => by kernel_rfl) (fun s D w ha h => ?_) (fun s w hg => ?_)
      · go_simp
        try rfl
      · exact hT.out.pg T0.out hS0 (mW_ok v) hg
    · refine ObOp.val (fun s => .tuple #[stV gT, fltV 0 0 0 0, .bool true]) (by kernel_rfl) (fun _ => rfl) (fun s => by kernel_rfl) (fun s D w hd hcl h => ?_)
      go_simp
      try rfl
    · refine ObOp.val (fun s => stV gT) (by kernel_rfl) (fun _ => rfl) (fun s => by kernel_rfl) (fun s D w hd hcl h => ?_)
      go_simp
      try rfl
    · refine ObOp.val (fun s => fltV 0 0 0 0) (by kernel_rfl) (fun _ => rfl) (fun s => by kernel_rfl) (fun s D w hd hcl h => ?_)
      go_simp
      try rfl
    · refine ObOp.val (fun s => .bool true) (by kernel_rfl) (fun _ => rfl) (fun s => by kernel_rfl) (fun s D w hd hcl h => ?_)
      go_simp
      try rfl
    · refine ObOp.alloc (gok13 S w B mV (mW v)) (x := ⟨11, 13, 29, #[.int .u32 0, .int .u32 0, .int .u32 0, .int .u32 0, .int .u32 0, .int .u32 0, .int .u32 0, .int .u32 0, .int .u32 0, .bool false, .bool false, .bool false, .bool false, .bool false, .bool false, .bool false, .int .u64 0], stA gT⟩) List.mem_cons_self (by kernel_rfl) (fun _ => rfl) rfl (fun s => by kernel_rfl) (fun s w => ?_)
      go_simp
      try rfl
    · refine ObOp.alloc (gok13 S w B mV (mW v)) (x := ⟨12, 14, 42, #[.int .i64 0, .int .u32 0, .int .u32 0, .int .i64 0], #[.int .i64 0, .int .u32 0, .int .u32 0, .int .i64 0]⟩) (List.mem_cons_of_mem _ List.mem_cons_self) (by kernel_rfl) (fun _ => rfl) rfl (fun s => by kernel_rfl) (fun s w => ?_)
      go_simp
      try rfl
    · refine ObOp.stores (gok13 S w B mV (mW v)) (x := ⟨11, 13, 29, #[.int .u32 0, .int .u32 0, .int .u32 0, .int .u32 0, .int .u32 0, .int .u32 0, .int .u32 0, .int .u32 0, .int .u32 0, .bool false, .bool false, .bool false, .bool false, .bool false, .bool false, .bool false, .int .u64 0], stA gT⟩) List.mem_cons_self (by kernel_rfl) (fun s => by kernel_rfl) rfl (by kernel_rfl) (fun s D w K hD hb hk => ?_)
      exact wp_store_row _ _ _ rfl (s 11) (stA gT) rfl rfl (29) (#[.int .u32 0, .int .u32 0, .int .u32 0, .int .u32 0, .int .u32 0, .int .u32 0, .int .u32 0, .int .u32 0, .int .u32 0, .bool false, .bool false, .bool false, .bool false, .bool false, .bool false, .bool false, .int .u64 0]) hb.h (by kernel_rfl) (by kernel_rfl) (by first | exact stA_all _ | simp [Value.oneCell']) hk
    · refine ObOp.stores (gok13 S w B mV (mW v)) (x := ⟨12, 14, 42, #[.int .i64 0, .int .u32 0, .int .u32 0, .int .i64 0], #[.int .i64 0, .int .u32 0, .int .u32 0, .int .i64 0]⟩) (List.mem_cons_of_mem _ List.mem_cons_self) (by kernel_rfl) (fun s => by kernel_rfl) rfl (by kernel_rfl) (fun s D w K hD hb hk => ?_)
      exact wp_store_row _ _ _ rfl (s 12) (#[.int .i64 0, .int .u32 0, .int .u32 0, .int .i64 0]) rfl rfl (42) (#[.int .i64 0, .int .u32 0, .int .u32 0, .int .i64 0]) hb.h (by kernel_rfl) (by kernel_rfl) (by first | exact stA_all _ | simp [Value.oneCell']) hk
    · refine ObOp.val (fun s => .bool true) (by kernel_rfl) (fun _ => rfl) (fun s => by kernel_rfl) (fun s D w hd hcl h => ?_)
      go_simp
      try rfl
  have z0 := h.box (x := ⟨11, 13, 29, #[.int .u32 0, .int .u32 0, .int .u32 0, .int .u32 0, .int .u32 0, .int .u32 0, .int .u32 0, .int .u32 0, .int .u32 0, .bool false, .bool false, .bool false, .bool false, .bool false, .bool false, .bool false, .int .u64 0], stA gT⟩) List.mem_cons_self rfl
  replace kk := Lib.hid (show ∀ x ∈ (s 11, 29, stA gT) :: [(S, 29, stA g)], Blk Wq x.1 x.2.1 x.2.2 from List.forall_mem_cons.2 ⟨z0.1, h.k⟩)
  replace ol := Lib.hid (show ∀ y ∈ (s 11, 29, stA gT) :: [(S, 29, stA g)], y.1 ∉ [B] from List.forall_mem_cons.2 ⟨by have z2 : B < s 11 := z0.2.1; simp; omega, ol.out⟩)
  replace p : Pg S w Wq B (mW v) := h.g
  clear h z0
  generalize s 11 = NT at *
  generalize s 12 = XT at *
  clear s Wp
  generalize Wq = Wp at *
  go_upto_region 8 with fail
  refine wp_region_inv (F := ?_) (fun _ _ => False) (fun _ _ _ _ h => h.elim) [some 54, some 55, some 56, some 57, some 58, some 59, some 60, some 53, some 61, some 62, some 63, some 15, some 16, none, none, some 17] [some (mp B), some (stV gT), some (.int .i64 k), some (opV ⟨1, k, 0, 0, 0, 0⟩), some (opV ⟨3, 0, 16, -1, -1, 1⟩), some (inV (iU k)), some (.tuple #[stV gU, fltV 0 0 0 0, .bool true]), some (.tuple #[stV gU, fltV 0 0 0 0, .bool true]), some (stV gU), some (fltV 0 0 0 0), some (.bool true), none, none, some undef, some undef, some (.bool true)] (RI (fun k W => Pg S w W B (bif k then (mW v) else (mW v))) B 6 16 [(NT, 29, stA gT), (S, 29, stA g)] [⟨11, 13, 29, #[.int .u32 0, .int .u32 0, .int .u32 0, .int .u32 0, .int .u32 0, .int .u32 0, .int .u32 0, .int .u32 0, .int .u32 0, .bool false, .bool false, .bool false, .bool false, .bool false, .bool false, .bool false, .int .u64 0], stA gU⟩, ⟨12, 14, 42, #[.int .i64 0, .int .u32 0, .int .u32 0, .int .i64 0], #[.int .i64 0, .int .u32 0, .int .u32 0, .int .i64 0]⟩]) (fun _ => 0) (by kernel_rfl) (by kernel_rfl) (fun s => ?_) (RI.start p.drew (fun x hx => (kk.out x hx).drew) _) ?_ (fun s Wq h => ?_)
  rotate_left
  · simp only [vsOf, putD, Act.put, Nat.reduceAdd, List.setIfInBounds_toArray, List.set_cons_zero, List.set_cons_succ]
    rfl
  · refine AllOps.cons ?_ (AllOps.cons ?_ (AllOps.cons ?_ (AllOps.cons ?_ (AllOps.cons ?_ (AllOps.cons ?_ (AllOps.cons ?_ (AllOps.cons ?_ (AllOps.cons ?_ (AllOps.cons ?_ (AllOps.cons ?_ (AllOps.cons ?_ (AllOps.cons ?_ (AllOps.cons ?_ (AllOps.cons ?_ (AllOps.cons ?_ AllOps.nil)))))))))))))))
    · refine ObOp.val (fun s => mp B) (by kernel_rfl) (fun _ => rfl) (fun s => by kernel_rfl) (fun s D w hd hcl h => ?_)
      go_simp
      try rfl
    · refine ObOp.val (fun s => stV gT) (by kernel_rfl) (fun _ => rfl) (fun s => by kernel_rfl) (fun s D w hd hcl h => ?_)
      exact run_load_row (by rfl) (by rfl) 29 _ (0, 0) _ (h.k _ List.mem_cons_self).h Tryz.underlying29 rfl szS
    · refine ObOp.val (fun s => .int .i64 k) (by kernel_rfl) (fun _ => rfl) (fun s => by kernel_rfl) (fun s D w hd hcl h => ?_)
      go_simp
      try rfl
    · refine ObOp.calls (gok13 S w B (mW v) (mW v)) (fun s => opV ⟨1, k, 0, 0, 0, 0⟩) (35) (fun s => #[.int .i64 k]) (by kernel_rfl) (fun _ => rfl) (fun s => by kernel_rfl) (fun s D w ha h => ?_) (fun s D w hd hcl h => ?_)
      · go_simp
        try rfl
      · exact reg13 k _
    · refine ObOp.calls (gok13 S w B (mW v) (mW v)) (fun s => opV ⟨3, 0, 16, -1, -1, 1⟩) (33) (fun s => #[.int .u32 16]) (by kernel_rfl) (fun _ => rfl) (fun s => by kernel_rfl) (fun s D w ha h => ?_) (fun s D w hd hcl h => ?_)
      · go_simp
        try rfl
      · exact mem13 16 _
    · refine ObOp.val (fun s => inV (iU k)) (by kernel_rfl) (fun _ => rfl) (fun s => by kernel_rfl) (fun s D w hd hcl h => ?_)
      go_simp
      exact ⟨rfl, rfl, rfl, rfl, rfl, rfl, rfl, rfl, rfl, rfl, rfl, rfl, rfl, rfl, rfl, rfl⟩
    · refine ObOp.guest (Sx := [B]) (fun k hk => by simp at hk; omega) (fun s => .tuple #[stV gU, fltV 0 0 0 0, .bool true]) (19) (fun s => #[mp B, stV gT, inV (iU k)]) (by kernel_rfl) ol.out (fun _ => rfl) (fun s => by kernel_rfl) (fun s D w ha h => ?_) (fun s w hg => ?_)
      · go_simp
        try rfl
      · exact hU0.out.pg T0.out hS0 (mW_ok v) hg
    · refine ObOp.val (fun s => .tuple #[stV gU, fltV 0 0 0 0, .bool true]) (by kernel_rfl) (fun _ => rfl) (fun s => by kernel_rfl) (fun s D w hd hcl h => ?_)
      go_simp
      try rfl
    · refine ObOp.val (fun s => stV gU) (by kernel_rfl) (fun _ => rfl) (fun s => by kernel_rfl) (fun s D w hd hcl h => ?_)
      go_simp
      try rfl
    · refine ObOp.val (fun s => fltV 0 0 0 0) (by kernel_rfl) (fun _ => rfl) (fun s => by kernel_rfl) (fun s D w hd hcl h => ?_)
      go_simp
      try rfl
    · refine ObOp.val (fun s => .bool true) (by kernel_rfl) (fun _ => rfl) (fun s => by kernel_rfl) (fun s D w hd hcl h => ?_)
      go_simp
      try rfl
    · refine ObOp.alloc (gok13 S w B (mW v) (mW v)) (x := ⟨11, 13, 29, #[.int .u32 0, .int .u32 0, .int .u32 0, .int .u32 0, .int .u32 0, .int .u32 0, .int .u32 0, .int .u32 0, .int .u32 0, .bool false, .bool false, .bool false, .bool false, .bool false, .bool false, .bool false, .int .u64 0], stA gU⟩) List.mem_cons_self (by kernel_rfl) (fun _ => rfl) rfl (fun s => by kernel_rfl) (fun s w => ?_)
      go_simp
      try rfl
    · refine ObOp.alloc (gok13 S w B (mW v) (mW v)) (x := ⟨12, 14, 42, #[.int .i64 0, .int .u32 0, .int .u32 0, .int .i64 0], #[.int .i64 0, .int .u32 0, .int .u32 0, .int .i64 0]⟩) (List.mem_cons_of_mem _ List.mem_cons_self) (by kernel_rfl) (fun _ => rfl) rfl (fun s => by kernel_rfl) (fun s w => ?_)
      go_simp
      try rfl
    · refine ObOp.stores (gok13 S w B (mW v) (mW v)) (x := ⟨11, 13, 29, #[.int .u32 0, .int .u32 0, .int .u32 0, .int .u32 0, .int .u32 0, .int .u32 0, .int .u32 0, .int .u32 0, .int .u32 0, .bool false, .bool false, .bool false, .bool false, .bool false, .bool false, .bool false, .int .u64 0], stA gU⟩) List.mem_cons_self (by kernel_rfl) (fun s => by kernel_rfl) rfl (by kernel_rfl) (fun s D w K hD hb hk => ?_)
      exact wp_store_row _ _ _ rfl (s 11) (stA gU) rfl rfl (29) (#[.int .u32 0, .int .u32 0, .int .u32 0, .int .u32 0, .int .u32 0, .int .u32 0, .int .u32 0, .int .u32 0, .int .u32 0, .bool false, .bool false, .bool false, .bool false, .bool false, .bool false, .bool false, .int .u64 0]) hb.h (by kernel_rfl) (by kernel_rfl) (by first | exact stA_all _ | simp [Value.oneCell']) hk
    · refine ObOp.stores (gok13 S w B (mW v) (mW v)) (x := ⟨12, 14, 42, #[.int .i64 0, .int .u32 0, .int .u32 0, .int .i64 0], #[.int .i64 0, .int .u32 0, .int .u32 0, .int .i64 0]⟩) (List.mem_cons_of_mem _ List.mem_cons_self) (by kernel_rfl) (fun s => by kernel_rfl) rfl (by kernel_rfl) (fun s D w K hD hb hk => ?_)
      exact wp_store_row _ _ _ rfl (s 12) (#[.int .i64 0, .int .u32 0, .int .u32 0, .int .i64 0]) rfl rfl (42) (#[.int .i64 0, .int .u32 0, .int .u32 0, .int .i64 0]) hb.h (by kernel_rfl) (by kernel_rfl) (by first | exact stA_all _ | simp [Value.oneCell']) hk
    · refine ObOp.val (fun s => .bool true) (by kernel_rfl) (fun _ => rfl) (fun s => by kernel_rfl) (fun s D w hd hcl h => ?_)
      go_simp
      try rfl
  have z0 := h.box (x := ⟨11, 13, 29, #[.int .u32 0, .int .u32 0, .int .u32 0, .int .u32 0, .int .u32 0, .int .u32 0, .int .u32 0, .int .u32 0, .int .u32 0, .bool false, .bool false, .bool false, .bool false, .bool false, .bool false, .bool false, .int .u64 0], stA gU⟩) List.mem_cons_self rfl
  replace kk := Lib.hid (show ∀ x ∈ (s 11, 29, stA gU) :: [(NT, 29, stA gT), (S, 29, stA g)], Blk Wq x.1 x.2.1 x.2.2 from List.forall_mem_cons.2 ⟨z0.1, h.k⟩)
  replace ol := Lib.hid (show ∀ y ∈ (s 11, 29, stA gU) :: [(NT, 29, stA gT), (S, 29, stA g)], y.1 ∉ [B] from List.forall_mem_cons.2 ⟨by have z2 : B < s 11 := z0.2.1; simp; omega, ol.out⟩)
  replace p : Pg S w Wq B (mW v) := h.g
  clear h z0
  generalize s 11 = NU at *
  generalize s 12 = XU at *
  clear s Wp
  generalize Wq = Wp at *
  go_upto_region 9 with fail
  refine wp_region_inv (F := ?_) (fun _ _ => False) (fun _ _ _ _ h => h.elim) [some 65, some 66, some 67, some 68, some 69, some 70, some 71, some 64, some 72, some 73, some 74, some 18, some 19, none, none, some 20] [some (mp B), some (stV gT), some (.int .i64 j), some (opV ⟨1, j, 0, 0, 0, 0⟩), some (opV ⟨3, 0, 17, -1, -1, 1⟩), some (inV (iW j)), some (.tuple #[stV gW, fltV 0 0 0 0, .bool true]), some (.tuple #[stV gW, fltV 0 0 0 0, .bool true]), some (stV gW), some (fltV 0 0 0 0), some (.bool true), none, none, some undef, some undef, some (.bool true)] (RI (fun k W => Pg S w W B (bif k then (mW v) else (mW v))) B 6 16 [(NU, 29, stA gU), (NT, 29, stA gT), (S, 29, stA g)] [⟨11, 13, 29, #[.int .u32 0, .int .u32 0, .int .u32 0, .int .u32 0, .int .u32 0, .int .u32 0, .int .u32 0, .int .u32 0, .int .u32 0, .bool false, .bool false, .bool false, .bool false, .bool false, .bool false, .bool false, .int .u64 0], stA gW⟩, ⟨12, 14, 42, #[.int .i64 0, .int .u32 0, .int .u32 0, .int .i64 0], #[.int .i64 0, .int .u32 0, .int .u32 0, .int .i64 0]⟩]) (fun _ => 0) (by kernel_rfl) (by kernel_rfl) (fun s => ?_) (RI.start p.drew (fun x hx => (kk.out x hx).drew) _) ?_ (fun s Wq h => ?_)
  rotate_left
  · simp only [vsOf, putD, Act.put, Nat.reduceAdd, List.setIfInBounds_toArray, List.set_cons_zero, List.set_cons_succ]
    rfl
  · refine AllOps.cons ?_ (AllOps.cons ?_ (AllOps.cons ?_ (AllOps.cons ?_ (AllOps.cons ?_ (AllOps.cons ?_ (AllOps.cons ?_ (AllOps.cons ?_ (AllOps.cons ?_ (AllOps.cons ?_ (AllOps.cons ?_ (AllOps.cons ?_ (AllOps.cons ?_ (AllOps.cons ?_ (AllOps.cons ?_ (AllOps.cons ?_ AllOps.nil)))))))))))))))
    · refine ObOp.val (fun s => mp B) (by kernel_rfl) (fun _ => rfl) (fun s => by kernel_rfl) (fun s D w hd hcl h => ?_)
      go_simp
      try rfl
    · refine ObOp.val (fun s => stV gT) (by kernel_rfl) (fun _ => rfl) (fun s => by kernel_rfl) (fun s D w hd hcl h => ?_)
      exact run_load_row (by rfl) (by rfl) 29 _ (0, 0) _ (h.k _ (List.mem_cons_of_mem _ List.mem_cons_self)).h Tryz.underlying29 rfl szS
    · refine ObOp.val (fun s => .int .i64 j) (by kernel_rfl) (fun _ => rfl) (fun s => by kernel_rfl) (fun s D w hd hcl h => ?_)
      go_simp
      try rfl
    · refine ObOp.calls (gok13 S w B (mW v) (mW v)) (fun s => opV ⟨1, j, 0, 0, 0, 0⟩) (35) (fun s => #[.int .i64 j]) (by kernel_rfl) (fun _ => rfl) (fun s => by kernel_rfl) (fun s D w ha h => ?_) (fun s D w hd hcl h => ?_)
      · go_simp
        try rfl
      · exact reg13 j _
    · refine ObOp.calls (gok13 S w B (mW v) (mW v)) (fun s => opV ⟨3, 0, 17, -1, -1, 1⟩) (33) (fun s => #[.int .u32 17]) (by kernel_rfl) (fun _ => rfl) (fun s => by kernel_rfl) (fun s D w ha h => ?_) (fun s D w hd hcl h => ?_)
      · go_simp
        try rfl
      · exact mem13 17 _
    · refine ObOp.val (fun s => inV (iW j)) (by kernel_rfl) (fun _ => rfl) (fun s => by kernel_rfl) (fun s D w hd hcl h => ?_)
      go_simp
      exact ⟨rfl, rfl, rfl, rfl, rfl, rfl, rfl, rfl, rfl, rfl, rfl, rfl, rfl, rfl, rfl, rfl⟩
    · refine ObOp.guest (Sx := [B]) (fun k hk => by simp at hk; omega) (fun s => .tuple #[stV gW, fltV 0 0 0 0, .bool true]) (19) (fun s => #[mp B, stV gT, inV (iW j)]) (by kernel_rfl) ol.out (fun _ => rfl) (fun s => by kernel_rfl) (fun s D w ha h => ?_) (fun s w hg => ?_)
      · go_simp
        try rfl
      · exact hW0.out.pg T0.out hS0 (mW_ok v) hg
    · refine ObOp.val (fun s => .tuple #[stV gW, fltV 0 0 0 0, .bool true]) (by kernel_rfl) (fun _ => rfl) (fun s => by kernel_rfl) (fun s D w hd hcl h => ?_)
      go_simp
      try rfl
    · refine ObOp.val (fun s => stV gW) (by kernel_rfl) (fun _ => rfl) (fun s => by kernel_rfl) (fun s D w hd hcl h => ?_)
      go_simp
      try rfl
    · refine ObOp.val (fun s => fltV 0 0 0 0) (by kernel_rfl) (fun _ => rfl) (fun s => by kernel_rfl) (fun s D w hd hcl h => ?_)
      go_simp
      try rfl
    · refine ObOp.val (fun s => .bool true) (by kernel_rfl) (fun _ => rfl) (fun s => by kernel_rfl) (fun s D w hd hcl h => ?_)
      go_simp
      try rfl
    · refine ObOp.alloc (gok13 S w B (mW v) (mW v)) (x := ⟨11, 13, 29, #[.int .u32 0, .int .u32 0, .int .u32 0, .int .u32 0, .int .u32 0, .int .u32 0, .int .u32 0, .int .u32 0, .int .u32 0, .bool false, .bool false, .bool false, .bool false, .bool false, .bool false, .bool false, .int .u64 0], stA gW⟩) List.mem_cons_self (by kernel_rfl) (fun _ => rfl) rfl (fun s => by kernel_rfl) (fun s w => ?_)
      go_simp
      try rfl
    · refine ObOp.alloc (gok13 S w B (mW v) (mW v)) (x := ⟨12, 14, 42, #[.int .i64 0, .int .u32 0, .int .u32 0, .int .i64 0], #[.int .i64 0, .int .u32 0, .int .u32 0, .int .i64 0]⟩) (List.mem_cons_of_mem _ List.mem_cons_self) (by kernel_rfl) (fun _ => rfl) rfl (fun s => by kernel_rfl) (fun s w => ?_)
      go_simp
      try rfl
    · refine ObOp.stores (gok13 S w B (mW v) (mW v)) (x := ⟨11, 13, 29, #[.int .u32 0, .int .u32 0, .int .u32 0, .int .u32 0, .int .u32 0, .int .u32 0, .int .u32 0, .int .u32 0, .int .u32 0, .bool false, .bool false, .bool false, .bool false, .bool false, .bool false, .bool false, .int .u64 0], stA gW⟩) List.mem_cons_self (by kernel_rfl) (fun s => by kernel_rfl) rfl (by kernel_rfl) (fun s D w K hD hb hk => ?_)
      exact wp_store_row _ _ _ rfl (s 11) (stA gW) rfl rfl (29) (#[.int .u32 0, .int .u32 0, .int .u32 0, .int .u32 0, .int .u32 0, .int .u32 0, .int .u32 0, .int .u32 0, .int .u32 0, .bool false, .bool false, .bool false, .bool false, .bool false, .bool false, .bool false, .int .u64 0]) hb.h (by kernel_rfl) (by kernel_rfl) (by first | exact stA_all _ | simp [Value.oneCell']) hk
    · refine ObOp.stores (gok13 S w B (mW v) (mW v)) (x := ⟨12, 14, 42, #[.int .i64 0, .int .u32 0, .int .u32 0, .int .i64 0], #[.int .i64 0, .int .u32 0, .int .u32 0, .int .i64 0]⟩) (List.mem_cons_of_mem _ List.mem_cons_self) (by kernel_rfl) (fun s => by kernel_rfl) rfl (by kernel_rfl) (fun s D w K hD hb hk => ?_)
      exact wp_store_row _ _ _ rfl (s 12) (#[.int .i64 0, .int .u32 0, .int .u32 0, .int .i64 0]) rfl rfl (42) (#[.int .i64 0, .int .u32 0, .int .u32 0, .int .i64 0]) hb.h (by kernel_rfl) (by kernel_rfl) (by first | exact stA_all _ | simp [Value.oneCell']) hk
    · refine ObOp.val (fun s => .bool true) (by kernel_rfl) (fun _ => rfl) (fun s => by kernel_rfl) (fun s D w hd hcl h => ?_)
      go_simp
      try rfl
  have z0 := h.box (x := ⟨11, 13, 29, #[.int .u32 0, .int .u32 0, .int .u32 0, .int .u32 0, .int .u32 0, .int .u32 0, .int .u32 0, .int .u32 0, .int .u32 0, .bool false, .bool false, .bool false, .bool false, .bool false, .bool false, .bool false, .int .u64 0], stA gW⟩) List.mem_cons_self rfl
  replace kk := Lib.hid (show ∀ x ∈ (s 11, 29, stA gW) :: [(NU, 29, stA gU), (NT, 29, stA gT), (S, 29, stA g)], Blk Wq x.1 x.2.1 x.2.2 from List.forall_mem_cons.2 ⟨z0.1, h.k⟩)
  replace ol := Lib.hid (show ∀ y ∈ (s 11, 29, stA gW) :: [(NU, 29, stA gU), (NT, 29, stA gT), (S, 29, stA g)], y.1 ∉ [B] from List.forall_mem_cons.2 ⟨by have z2 : B < s 11 := z0.2.1; simp; omega, ol.out⟩)
  replace p : Pg S w Wq B (mW v) := h.g
  clear h z0
  generalize s 11 = NW at *
  generalize s 12 = XW at *
  clear s Wp
  generalize Wq = Wp at *
  go_upto_region 10 with fail
  refine wp_region_inv (F := ?_) (fun _ _ => False) (fun _ _ _ _ h => h.elim) [some 76, some 77, some 78, some 79, some 80, some 81, some 82, some 75, some 83, some 84, some 85, some 21, some 22, none, none, some 23] [some (mp B), some (stV gT), some (.int .i64 j), some (opV ⟨1, j, 0, 0, 0, 0⟩), some (opV ⟨3, 0, 17, -1, -1, 1⟩), some (inV (iX j)), some (.tuple #[stV gX, fltV 0 0 0 0, .bool true]), some (.tuple #[stV gX, fltV 0 0 0 0, .bool true]), some (stV gX), some (fltV 0 0 0 0), some (.bool true), none, none, some undef, some undef, some (.bool true)] (RI (fun k W => Pg S w W B (bif k then (mW v) else (mW v))) B 6 16 [(NW, 29, stA gW), (NU, 29, stA gU), (NT, 29, stA gT), (S, 29, stA g)] [⟨11, 13, 29, #[.int .u32 0, .int .u32 0, .int .u32 0, .int .u32 0, .int .u32 0, .int .u32 0, .int .u32 0, .int .u32 0, .int .u32 0, .bool false, .bool false, .bool false, .bool false, .bool false, .bool false, .bool false, .int .u64 0], stA gX⟩, ⟨12, 14, 42, #[.int .i64 0, .int .u32 0, .int .u32 0, .int .i64 0], #[.int .i64 0, .int .u32 0, .int .u32 0, .int .i64 0]⟩]) (fun _ => 0) (by kernel_rfl) (by kernel_rfl) (fun s => ?_) (RI.start p.drew (fun x hx => (kk.out x hx).drew) _) ?_ (fun s Wq h => ?_)
  rotate_left
  · simp only [vsOf, putD, Act.put, Nat.reduceAdd, List.setIfInBounds_toArray, List.set_cons_zero, List.set_cons_succ]
    rfl
  · refine AllOps.cons ?_ (AllOps.cons ?_ (AllOps.cons ?_ (AllOps.cons ?_ (AllOps.cons ?_ (AllOps.cons ?_ (AllOps.cons ?_ (AllOps.cons ?_ (AllOps.cons ?_ (AllOps.cons ?_ (AllOps.cons ?_ (AllOps.cons ?_ (AllOps.cons ?_ (AllOps.cons ?_ (AllOps.cons ?_ (AllOps.cons ?_ AllOps.nil)))))))))))))))
    · refine ObOp.val (fun s => mp B) (by kernel_rfl) (fun _ => rfl) (fun s => by kernel_rfl) (fun s D w hd hcl h => ?_)
      go_simp
      try rfl
    · refine ObOp.val (fun s => stV gT) (by kernel_rfl) (fun _ => rfl) (fun s => by kernel_rfl) (fun s D w hd hcl h => ?_)
      exact run_load_row (by rfl) (by rfl) 29 _ (0, 0) _ (h.k _ (List.mem_cons_of_mem _ (List.mem_cons_of_mem _ List.mem_cons_self))).h Tryz.underlying29 rfl szS
    · refine ObOp.val (fun s => .int .i64 j) (by kernel_rfl) (fun _ => rfl) (fun s => by kernel_rfl) (fun s D w hd hcl h => ?_)
      go_simp
      try rfl
    · refine ObOp.calls (gok13 S w B (mW v) (mW v)) (fun s => opV ⟨1, j, 0, 0, 0, 0⟩) (35) (fun s => #[.int .i64 j]) (by kernel_rfl) (fun _ => rfl) (fun s => by kernel_rfl) (fun s D w ha h => ?_) (fun s D w hd hcl h => ?_)
      · go_simp
        try rfl
      · exact reg13 j _
    · refine ObOp.calls (gok13 S w B (mW v) (mW v)) (fun s => opV ⟨3, 0, 17, -1, -1, 1⟩) (33) (fun s => #[.int .u32 17]) (by kernel_rfl) (fun _ => rfl) (fun s => by kernel_rfl) (fun s D w ha h => ?_) (fun s D w hd hcl h => ?_)
      · go_simp
        try rfl
      · exact mem13 17 _
    · refine ObOp.val (fun s => inV (iX j)) (by kernel_rfl) (fun _ => rfl) (fun s => by kernel_rfl) (fun s D w hd hcl h => ?_)
      go_simp
      exact ⟨rfl, rfl, rfl, rfl, rfl, rfl, rfl, rfl, rfl, rfl, rfl, rfl, rfl, rfl, rfl, rfl⟩
    · refine ObOp.guest (Sx := [B]) (fun k hk => by simp at hk; omega) (fun s => .tuple #[stV gX, fltV 0 0 0 0, .bool true]) (19) (fun s => #[mp B, stV gT, inV (iX j)]) (by kernel_rfl) ol.out (fun _ => rfl) (fun s => by kernel_rfl) (fun s D w ha h => ?_) (fun s w hg => ?_)
      · go_simp
        try rfl
      · exact hX0.out.pg T0.out hS0 (mW_ok v) hg
    · refine ObOp.val (fun s => .tuple #[stV gX, fltV 0 0 0 0, .bool true]) (by kernel_rfl) (fun _ => rfl) (fun s => by kernel_rfl) (fun s D w hd hcl h => ?_)
      go_simp
      try rfl
    · refine ObOp.val (fun s => stV gX) (by kernel_rfl) (fun _ => rfl) (fun s => by kernel_rfl) (fun s D w hd hcl h => ?_)
      go_simp
      try rfl
    · refine ObOp.val (fun s => fltV 0 0 0 0) (by kernel_rfl) (fun _ => rfl) (fun s => by kernel_rfl) (fun s D w hd hcl h => ?_)
      go_simp
      try rfl
    · refine ObOp.val (fun s => .bool true) (by kernel_rfl) (fun _ => rfl) (fun s => by kernel_rfl) (fun s D w hd hcl h => ?_)
      go_simp
      try rfl
    · refine ObOp.alloc (gok13 S w B (mW v) (mW v)) (x := ⟨11, 13, 29, #[.int .u32 0, .int .u32 0, .int .u32 0, .int .u32 0, .int .u32 0, .int .u32 0, .int .u32 0, .int .u32 0, .int .u32 0, .bool false, .bool false, .bool false, .bool false, .bool false, .bool false, .bool false, .int .u64 0], stA gX⟩) List.mem_cons_self (by kernel_rfl) (fun _ => rfl) rfl (fun s => by kernel_rfl) (fun s w => ?_)
      go_simp
      try rfl
    · refine ObOp.alloc (gok13 S w B (mW v) (mW v)) (x := ⟨12, 14, 42, #[.int .i64 0, .int .u32 0, .int .u32 0, .int .i64 0], #[.int .i64 0, .int .u32 0, .int .u32 0, .int .i64 0]⟩) (List.mem_cons_of_mem _ List.mem_cons_self) (by kernel_rfl) (fun _ => rfl) rfl (fun s => by kernel_rfl) (fun s w => ?_)
      go_simp
      try rfl
    · refine ObOp.stores (gok13 S w B (mW v) (mW v)) (x := ⟨11, 13, 29, #[.int .u32 0, .int .u32 0, .int .u32 0, .int .u32 0, .int .u32 0, .int .u32 0, .int .u32 0, .int .u32 0, .int .u32 0, .bool false, .bool false, .bool false, .bool false, .bool false, .bool false, .bool false, .int .u64 0], stA gX⟩) List.mem_cons_self (by kernel_rfl) (fun s => by kernel_rfl) rfl (by kernel_rfl) (fun s D w K hD hb hk => ?_)
      exact wp_store_row _ _ _ rfl (s 11) (stA gX) rfl rfl (29) (#[.int .u32 0, .int .u32 0, .int .u32 0, .int .u32 0, .int .u32 0, .int .u32 0, .int .u32 0, .int .u32 0, .int .u32 0, .bool false, .bool false, .bool false, .bool false, .bool false, .bool false, .bool false, .int .u64 0]) hb.h (by kernel_rfl) (by kernel_rfl) (by first | exact stA_all _ | simp [Value.oneCell']) hk
    · refine ObOp.stores (gok13 S w B (mW v) (mW v)) (x := ⟨12, 14, 42, #[.int .i64 0, .int .u32 0, .int .u32 0, .int .i64 0], #[.int .i64 0, .int .u32 0, .int .u32 0, .int .i64 0]⟩) (List.mem_cons_of_mem _ List.mem_cons_self) (by kernel_rfl) (fun s => by kernel_rfl) rfl (by kernel_rfl) (fun s D w K hD hb hk => ?_)
      exact wp_store_row _ _ _ rfl (s 12) (#[.int .i64 0, .int .u32 0, .int .u32 0, .int .i64 0]) rfl rfl (42) (#[.int .i64 0, .int .u32 0, .int .u32 0, .int .i64 0]) hb.h (by kernel_rfl) (by kernel_rfl) (by first | exact stA_all _ | simp [Value.oneCell']) hk
    · refine ObOp.val (fun s => .bool true) (by kernel_rfl) (fun _ => rfl) (fun s => by kernel_rfl) (fun s D w hd hcl h => ?_)
      go_simp
      try rfl
  have z0 := h.box (x := ⟨11, 13, 29, #[.int .u32 0, .int .u32 0, .int .u32 0, .int .u32 0, .int .u32 0, .int .u32 0, .int .u32 0, .int .u32 0, .int .u32 0, .bool false, .bool false, .bool false, .bool false, .bool false, .bool false, .bool false, .int .u64 0], stA gX⟩) List.mem_cons_self rfl
  replace kk := Lib.hid (show ∀ x ∈ (s 11, 29, stA gX) :: [(NW, 29, stA gW), (NU, 29, stA gU), (NT, 29, stA gT), (S, 29, stA g)], Blk Wq x.1 x.2.1 x.2.2 from List.forall_mem_cons.2 ⟨z0.1, h.k⟩)
  replace ol := Lib.hid (show ∀ y ∈ (s 11, 29, stA gX) :: [(NW, 29, stA gW), (NU, 29, stA gU), (NT, 29, stA gT), (S, 29, stA g)], y.1 ∉ [B] from List.forall_mem_cons.2 ⟨by have z2 : B < s 11 := z0.2.1; simp; omega, ol.out⟩)
  replace p : Pg S w Wq B (mW v) := h.g
  clear h z0
  generalize s 11 = NX at *
  generalize s 12 = XX at *
  clear s Wp
  generalize Wq = Wp at *
  go_upto_region 11 with fail
  refine wp_region_inv (F := ?_) (fun _ _ => False) (fun _ _ _ _ h => h.elim) [some 87, some 88, some 89, some 90, some 91, some 92, some 93, some 94, some 86, some 95, some 96, some 97, some 24, some 25, none, none, some 26] [some (mp B), some (stV gU), some (.int .i64 k), some (opV ⟨1, k, 0, 0, 0, 0⟩), some (.int .i64 j), some (opV ⟨1, j, 0, 0, 0, 0⟩), some (inV (iY k j)), some (.tuple #[stV gY, fltV 0 0 0 0, .bool true]), some (.tuple #[stV gY, fltV 0 0 0 0, .bool true]), some (stV gY), some (fltV 0 0 0 0), some (.bool true), none, none, some undef, some undef, some (.bool true)] (RI (fun k W => Pg S w W B (bif k then (mW v) else (mW v))) B 7 17 [(NX, 29, stA gX), (NW, 29, stA gW), (NU, 29, stA gU), (NT, 29, stA gT), (S, 29, stA g)] [⟨12, 14, 29, #[.int .u32 0, .int .u32 0, .int .u32 0, .int .u32 0, .int .u32 0, .int .u32 0, .int .u32 0, .int .u32 0, .int .u32 0, .bool false, .bool false, .bool false, .bool false, .bool false, .bool false, .bool false, .int .u64 0], stA gY⟩, ⟨13, 15, 42, #[.int .i64 0, .int .u32 0, .int .u32 0, .int .i64 0], #[.int .i64 0, .int .u32 0, .int .u32 0, .int .i64 0]⟩]) (fun _ => 0) (by kernel_rfl) (by kernel_rfl) (fun s => ?_) (RI.start p.drew (fun x hx => (kk.out x hx).drew) _) ?_ (fun s Wq h => ?_)
  rotate_left
  · simp only [vsOf, putD, Act.put, Nat.reduceAdd, List.setIfInBounds_toArray, List.set_cons_zero, List.set_cons_succ]
    rfl
  · refine AllOps.cons ?_ (AllOps.cons ?_ (AllOps.cons ?_ (AllOps.cons ?_ (AllOps.cons ?_ (AllOps.cons ?_ (AllOps.cons ?_ (AllOps.cons ?_ (AllOps.cons ?_ (AllOps.cons ?_ (AllOps.cons ?_ (AllOps.cons ?_ (AllOps.cons ?_ (AllOps.cons ?_ (AllOps.cons ?_ (AllOps.cons ?_ (AllOps.cons ?_ AllOps.nil))))))))))))))))
    · refine ObOp.val (fun s => mp B) (by kernel_rfl) (fun _ => rfl) (fun s => by kernel_rfl) (fun s D w hd hcl h => ?_)
      go_simp
      try rfl
    · refine ObOp.val (fun s => stV gU) (by kernel_rfl) (fun _ => rfl) (fun s => by kernel_rfl) (fun s D w hd hcl h => ?_)
      exact run_load_row (by rfl) (by rfl) 29 _ (0, 0) _ (h.k _ (List.mem_cons_of_mem _ (List.mem_cons_of_mem _ List.mem_cons_self))).h Tryz.underlying29 rfl szS
    · refine ObOp.val (fun s => .int .i64 k) (by kernel_rfl) (fun _ => rfl) (fun s => by kernel_rfl) (fun s D w hd hcl h => ?_)
      go_simp
      try rfl
    · refine ObOp.calls (gok13 S w B (mW v) (mW v)) (fun s => opV ⟨1, k, 0, 0, 0, 0⟩) (35) (fun s => #[.int .i64 k]) (by kernel_rfl) (fun _ => rfl) (fun s => by kernel_rfl) (fun s D w ha h => ?_) (fun s D w hd hcl h => ?_)
      · go_simp
        try rfl
      · exact reg13 k _
    · refine ObOp.val (fun s => .int .i64 j) (by kernel_rfl) (fun _ => rfl) (fun s => by kernel_rfl) (fun s D w hd hcl h => ?_)
      go_simp
      try rfl
    · refine ObOp.calls (gok13 S w B (mW v) (mW v)) (fun s => opV ⟨1, j, 0, 0, 0, 0⟩) (35) (fun s => #[.int .i64 j]) (by kernel_rfl) (fun _ => rfl) (fun s => by kernel_rfl) (fun s D w ha h => ?_) (fun s D w hd hcl h => ?_)
      · go_simp
        try rfl
      · exact reg13 j _
    · refine ObOp.val (fun s => inV (iY k j)) (by kernel_rfl) (fun _ => rfl) (fun s => by kernel_rfl) (fun s D w hd hcl h => ?_)
      go_simp
      exact ⟨rfl, rfl, rfl, rfl, rfl, rfl, rfl, rfl, rfl, rfl, rfl, rfl, rfl, rfl, rfl, rfl⟩
    · refine ObOp.guest (Sx := [B]) (fun k hk => by simp at hk; omega) (fun s => .tuple #[stV gY, fltV 0 0 0 0, .bool true]) (19) (fun s => #[mp B, stV gU, inV (iY k j)]) (by kernel_rfl) ol.out (fun _ => rfl) (fun s => by kernel_rfl) (fun s D w ha h => ?_) (fun s w hg => ?_)
      · go_simp
        try rfl
      · exact hY0.out.pg T0.out hS0 (mW_ok v) hg
    · refine ObOp.val (fun s => .tuple #[stV gY, fltV 0 0 0 0, .bool true]) (by kernel_rfl) (fun _ => rfl) (fun s => by kernel_rfl) (fun s D w hd hcl h => ?_)
      go_simp
      try rfl
    · refine ObOp.val (fun s => stV gY) (by kernel_rfl) (fun _ => rfl) (fun s => by kernel_rfl) (fun s D w hd hcl h => ?_)
      go_simp
      try rfl
    · refine ObOp.val (fun s => fltV 0 0 0 0) (by kernel_rfl) (fun _ => rfl) (fun s => by kernel_rfl) (fun s D w hd hcl h => ?_)
      go_simp
      try rfl
    · refine ObOp.val (fun s => .bool true) (by kernel_rfl) (fun _ => rfl) (fun s => by kernel_rfl) (fun s D w hd hcl h => ?_)
      go_simp
      try rfl
    · refine ObOp.alloc (gok13 S w B (mW v) (mW v)) (x := ⟨12, 14, 29, #[.int .u32 0, .int .u32 0, .int .u32 0, .int .u32 0, .int .u32 0, .int .u32 0, .int .u32 0, .int .u32 0, .int .u32 0, .bool false, .bool false, .bool false, .bool false, .bool false, .bool false, .bool false, .int .u64 0], stA gY⟩) List.mem_cons_self (by kernel_rfl) (fun _ => rfl) rfl (fun s => by kernel_rfl) (fun s w => ?_)
      go_simp
      try rfl
    · refine ObOp.alloc (gok13 S w B (mW v) (mW v)) (x := ⟨13, 15, 42, #[.int .i64 0, .int .u32 0, .int .u32 0, .int .i64 0], #[.int .i64 0, .int .u32 0, .int .u32 0, .int .i64 0]⟩) (List.mem_cons_of_mem _ List.mem_cons_self) (by kernel_rfl) (fun _ => rfl) rfl (fun s => by kernel_rfl) (fun s w => ?_)
      go_simp
      try rfl
    · refine ObOp.stores (gok13 S w B (mW v) (mW v)) (x := ⟨12, 14, 29, #[.int .u32 0, .int .u32 0, .int .u32 0, .int .u32 0, .int .u32 0, .int .u32 0, .int .u32 0, .int .u32 0, .int .u32 0, .bool false, .bool false, .bool false, .bool false, .bool false, .bool false, .bool false, .int .u64 0], stA gY⟩) List.mem_cons_self (by kernel_rfl) (fun s => by kernel_rfl) rfl (by kernel_rfl) (fun s D w K hD hb hk => ?_)
      exact wp_store_row _ _ _ rfl (s 12) (stA gY) rfl rfl (29) (#[.int .u32 0, .int .u32 0, .int .u32 0, .int .u32 0, .int .u32 0, .int .u32 0, .int .u32 0, .int .u32 0, .int .u32 0, .bool false, .bool false, .bool false, .bool false, .bool false, .bool false, .bool false, .int .u64 0]) hb.h (by kernel_rfl) (by kernel_rfl) (by first | exact stA_all _ | simp [Value.oneCell']) hk
    · refine ObOp.stores (gok13 S w B (mW v) (mW v)) (x := ⟨13, 15, 42, #[.int .i64 0, .int .u32 0, .int .u32 0, .int .i64 0], #[.int .i64 0, .int .u32 0, .int .u32 0, .int .i64 0]⟩) (List.mem_cons_of_mem _ List.mem_cons_self) (by kernel_rfl) (fun s => by kernel_rfl) rfl (by kernel_rfl) (fun s D w K hD hb hk => ?_)
      exact wp_store_row _ _ _ rfl (s 13) (#[.int .i64 0, .int .u32 0, .int .u32 0, .int .i64 0]) rfl rfl (42) (#[.int .i64 0, .int .u32 0, .int .u32 0, .int .i64 0]) hb.h (by kernel_rfl) (by kernel_rfl) (by first | exact stA_all _ | simp [Value.oneCell']) hk
    · refine ObOp.val (fun s => .bool true) (by kernel_rfl) (fun _ => rfl) (fun s => by kernel_rfl) (fun s D w hd hcl h => ?_)
      go_simp
      try rfl
  have z0 := h.box (x := ⟨12, 14, 29, #[.int .u32 0, .int .u32 0, .int .u32 0, .int .u32 0, .int .u32 0, .int .u32 0, .int .u32 0, .int .u32 0, .int .u32 0, .bool false, .bool false, .bool false, .bool false, .bool false, .bool false, .bool false, .int .u64 0], stA gY⟩) List.mem_cons_self rfl
  replace kk := Lib.hid (show ∀ x ∈ (s 12, 29, stA gY) :: [(NX, 29, stA gX), (NW, 29, stA gW), (NU, 29, stA gU), (NT, 29, stA gT), (S, 29, stA g)], Blk Wq x.1 x.2.1 x.2.2 from List.forall_mem_cons.2 ⟨z0.1, h.k⟩)
  replace ol := Lib.hid (show ∀ y ∈ (s 12, 29, stA gY) :: [(NX, 29, stA gX), (NW, 29, stA gW), (NU, 29, stA gU), (NT, 29, stA gT), (S, 29, stA g)], y.1 ∉ [B] from List.forall_mem_cons.2 ⟨by have z2 : B < s 12 := z0.2.1; simp; omega, ol.out⟩)
  replace p : Pg S w Wq B (mW v) := h.g
  clear h z0
  generalize s 12 = NY at *
  generalize s 13 = XY at *
  clear s Wp
  generalize Wq = Wp at *
  go_upto_region 12 with fail
  refine wp_region_inv (F := ?_) (fun _ _ => False) (fun _ _ _ _ h => h.elim) [some 99, some 100, some 101, some 102, some 103, some 104, some 105, some 106, some 98, some 107, some 108, some 109, some 27, some 28, none, none, some 29] [some (mp B), some (stV gT), some (.int .i64 k), some (opV ⟨1, k, 0, 0, 0, 0⟩), some (.int .u32 v), some (opV ⟨3, 0, v, -1, -1, 1⟩), some (inV (iZ k v)), some (.tuple #[stV gZ, fltV 0 0 0 0, .bool true]), some (.tuple #[stV gZ, fltV 0 0 0 0, .bool true]), some (stV gZ), some (fltV 0 0 0 0), some (.bool true), none, none, some undef, some undef, some (.bool true)] (RI (fun k W => Pg S w W B (bif k then (mW v) else (mW v))) B 7 17 [(NY, 29, stA gY), (NX, 29, stA gX), (NW, 29, stA gW), (NU, 29, stA gU), (NT, 29, stA gT), (S, 29, stA g)] [⟨12, 14, 29, #[.int .u32 0, .int .u32 0, .int .u32 0, .int .u32 0, .int .u32 0, .int .u32 0, .int .u32 0, .int .u32 0, .int .u32 0, .bool false, .bool false, .bool false, .bool false, .bool false, .bool false, .bool false, .int .u64 0], stA gZ⟩, ⟨13, 15, 42, #[.int .i64 0, .int .u32 0, .int .u32 0, .int .i64 0], #[.int .i64 0, .int .u32 0, .int .u32 0, .int .i64 0]⟩]) (fun _ => 0) (by kernel_rfl) (by kernel_rfl) (fun s => ?_) (RI.start p.drew (fun x hx => (kk.out x hx).drew) _) ?_ (fun s Wq h => ?_)
  rotate_left
  · simp only [vsOf, putD, Act.put, Nat.reduceAdd, List.setIfInBounds_toArray, List.set_cons_zero, List.set_cons_succ]
    rfl
  · refine AllOps.cons ?_ (AllOps.cons ?_ (AllOps.cons ?_ (AllOps.cons ?_ (AllOps.cons ?_ (AllOps.cons ?_ (AllOps.cons ?_ (AllOps.cons ?_ (AllOps.cons ?_ (AllOps.cons ?_ (AllOps.cons ?_ (AllOps.cons ?_ (AllOps.cons ?_ (AllOps.cons ?_ (AllOps.cons ?_ (AllOps.cons ?_ (AllOps.cons ?_ AllOps.nil))))))))))))))))
    · refine ObOp.val (fun s => mp B) (by kernel_rfl) (fun _ => rfl) (fun s => by kernel_rfl) (fun s D w hd hcl h => ?_)
      go_simp
      try rfl
    · refine ObOp.val (fun s => stV gT) (by kernel_rfl) (fun _ => rfl) (fun s => by kernel_rfl) (fun s D w hd hcl h => ?_)
      exact run_load_row (by rfl) (by rfl) 29 _ (0, 0) _ (h.k _ (List.mem_cons_of_mem _ (List.mem_cons_of_mem _ (List.mem_cons_of_mem _ (List.mem_cons_of_mem _ List.mem_cons_self))))).h Tryz.underlying29 rfl szS
    · refine ObOp.val (fun s => .int .i64 k) (by kernel_rfl) (fun _ => rfl) (fun s => by kernel_rfl) (fun s D w hd hcl h => ?_)
      go_simp
      try rfl
    · refine ObOp.calls (gok13 S w B (mW v) (mW v)) (fun s => opV ⟨1, k, 0, 0, 0, 0⟩) (35) (fun s => #[.int .i64 k]) (by kernel_rfl) (fun _ => rfl) (fun s => by kernel_rfl) (fun s D w ha h => ?_) (fun s D w hd hcl h => ?_)
      · go_simp
        try rfl
      · exact reg13 k _
    · refine ObOp.val (fun s => .int .u32 v) (by kernel_rfl) (fun _ => rfl) (fun s => by kernel_rfl) (fun s D w hd hcl h => ?_)
      go_simp
      try rfl
    · refine ObOp.calls (gok13 S w B (mW v) (mW v)) (fun s => opV ⟨3, 0, v, -1, -1, 1⟩) (33) (fun s => #[.int .u32 v]) (by kernel_rfl) (fun _ => rfl) (fun s => by kernel_rfl) (fun s D w ha h => ?_) (fun s D w hd hcl h => ?_)
      · go_simp
        try rfl
      · exact mem13 v _
    · refine ObOp.val (fun s => inV (iZ k v)) (by kernel_rfl) (fun _ => rfl) (fun s => by kernel_rfl) (fun s D w hd hcl h => ?_)
      go_simp
      exact ⟨rfl, rfl, rfl, rfl, rfl, rfl, rfl, rfl, rfl, rfl, rfl, rfl, rfl, rfl, rfl, rfl⟩
    · refine ObOp.guest (Sx := [B]) (fun k hk => by simp at hk; omega) (fun s => .tuple #[stV gZ, fltV 0 0 0 0, .bool true]) (19) (fun s => #[mp B, stV gT, inV (iZ k v)]) (by kernel_rfl) ol.out (fun _ => rfl) (fun s => by kernel_rfl) (fun s D w ha h => ?_) (fun s w hg => ?_)
      · go_simp
        try rfl
      · exact hZ0.out.pg T0.out hS0 (mW_ok v) hg
    · refine ObOp.val (fun s => .tuple #[stV gZ, fltV 0 0 0 0, .bool true]) (by kernel_rfl) (fun _ => rfl) (fun s => by kernel_rfl) (fun s D w hd hcl h => ?_)
      go_simp
      try rfl
    · refine ObOp.val (fun s => stV gZ) (by kernel_rfl) (fun _ => rfl) (fun s => by kernel_rfl) (fun s D w hd hcl h => ?_)
      go_simp
      try rfl
    · refine ObOp.val (fun s => fltV 0 0 0 0) (by kernel_rfl) (fun _ => rfl) (fun s => by kernel_rfl) (fun s D w hd hcl h => ?_)
      go_simp
      try rfl
    · refine ObOp.val (fun s => .bool true) (by kernel_rfl) (fun _ => rfl) (fun s => by kernel_rfl) (fun s D w hd hcl h => ?_)
      go_simp
      try rfl
    · refine ObOp.alloc (gok13 S w B (mW v) (mW v)) (x := ⟨12, 14, 29, #[.int .u32 0, .int .u32 0, .int .u32 0, .int .u32 0, .int .u32 0, .int .u32 0, .int .u32 0, .int .u32 0, .int .u32 0, .bool false, .bool false, .bool false, .bool false, .bool false, .bool false, .bool false, .int .u64 0], stA gZ⟩) List.mem_cons_self (by kernel_rfl) (fun _ => rfl) rfl (fun s => by kernel_rfl) (fun s w => ?_)
      go_simp
      try rfl
    · refine ObOp.alloc (gok13 S w B (mW v) (mW v)) (x := ⟨13, 15, 42, #[.int .i64 0, .int .u32 0, .int .u32 0, .int .i64 0], #[.int .i64 0, .int .u32 0, .int .u32 0, .int .i64 0]⟩) (List.mem_cons_of_mem _ List.mem_cons_self) (by kernel_rfl) (fun _ => rfl) rfl (fun s => by kernel_rfl) (fun s w => ?_)
      go_simp
      try rfl
    · refine ObOp.stores (gok13 S w B (mW v) (mW v)) (x := ⟨12, 14, 29, #[.int .u32 0, .int .u32 0, .int .u32 0, .int .u32 0, .int .u32 0, .int .u32 0, .int .u32 0, .int .u32 0, .int .u32 0, .bool false, .bool false, .bool false, .bool false, .bool false, .bool false, .bool false, .int .u64 0], stA gZ⟩) List.mem_cons_self (by kernel_rfl) (fun s => by kernel_rfl) rfl (by kernel_rfl) (fun s D w K hD hb hk => ?_)
      exact wp_store_row _ _ _ rfl (s 12) (stA gZ) rfl rfl (29) (#[.int .u32 0, .int .u32 0, .int .u32 0, .int .u32 0, .int .u32 0, .int .u32 0, .int .u32 0, .int .u32 0, .int .u32 0, .bool false, .bool false, .bool false, .bool false, .bool false, .bool false, .bool false, .int .u64 0]) hb.h (by kernel_rfl) (by kernel_rfl) (by first | exact stA_all _ | simp [Value.oneCell']) hk
    · refine ObOp.stores (gok13 S w B (mW v) (mW v)) (x := ⟨13, 15, 42, #[.int .i64 0, .int .u32 0, .int .u32 0, .int .i64 0], #[.int .i64 0, .int .u32 0, .int .u32 0, .int .i64 0]⟩) (List.mem_cons_of_mem _ List.mem_cons_self) (by kernel_rfl) (fun s => by kernel_rfl) rfl (by kernel_rfl) (fun s D w K hD hb hk => ?_)
      exact wp_store_row _ _ _ rfl (s 13) (#[.int .i64 0, .int .u32 0, .int .u32 0, .int .i64 0]) rfl rfl (42) (#[.int .i64 0, .int .u32 0, .int .u32 0, .int .i64 0]) hb.h (by kernel_rfl) (by kernel_rfl) (by first | exact stA_all _ | simp [Value.oneCell']) hk
    · refine ObOp.val (fun s => .bool true) (by kernel_rfl) (fun _ => rfl) (fun s => by kernel_rfl) (fun s D w hd hcl h => ?_)
      go_simp
      try rfl
  have z0 := h.box (x := ⟨12, 14, 29, #[.int .u32 0, .int .u32 0, .int .u32 0, .int .u32 0, .int .u32 0, .int .u32 0, .int .u32 0, .int .u32 0, .int .u32 0, .bool false, .bool false, .bool false, .bool false, .bool false, .bool false, .bool false, .int .u64 0], stA gZ⟩) List.mem_cons_self rfl
  replace kk := Lib.hid (show ∀ x ∈ (s 12, 29, stA gZ) :: [(NY, 29, stA gY), (NX, 29, stA gX), (NW, 29, stA gW), (NU, 29, stA gU), (NT, 29, stA gT), (S, 29, stA g)], Blk Wq x.1 x.2.1 x.2.2 from List.forall_mem_cons.2 ⟨z0.1, h.k⟩)
  replace ol := Lib.hid (show ∀ y ∈ (s 12, 29, stA gZ) :: [(NY, 29, stA gY), (NX, 29, stA gX), (NW, 29, stA gW), (NU, 29, stA gU), (NT, 29, stA gT), (S, 29, stA g)], y.1 ∉ [B] from List.forall_mem_cons.2 ⟨by have z2 : B < s 12 := z0.2.1; simp; omega, ol.out⟩)
  replace p : Pg S w Wq B (mW v) := h.g
  clear h z0
  generalize s 12 = NZ at *
  generalize s 13 = XZ at *
  clear s Wp
  generalize Wq = Wp at *
  go_upto_region 13 with fail
  clear hT hU0 hW0 hX0 hY0 hZ0 T0 ol
  by_cases hkj : k = j
  · have ekj : ((k : Int) == (j : Int)) = true := by rw [hkj]; simp
    clear hN hkj
    refine wp_region_inv (F := ?_) (fun _ _ => False) (fun _ _ _ _ h => h.elim) [some 110, some 111, some 112, some 113, some 114, some 115, some 116, some 117, some 118, some 119, some 120, some 121, some 122, some 123, some 124, some 125, some 126, some 127, some 128, some 129, some 130, some 131, some 132, some 133, some 134, some 135, some 136, some 137, some 138, some 139, some 140, some 141, some 142, some 143, some 144, some 145, some 146, some 147, some 148, some 149, some 150, some 151, some 152, some 153, some 154, some 155, some 156, some 157, some 158, some 159, some 160, some 161, some 162, some 163, some 164, some 165, some 166, some 167, some 168, some 169, some 170, some 171, some 172, some 173, some 174, some 175, some 176, some 177, some 178, some 179, some 180, some 181, some 182, some 183, some 184, some 185, some 186, some 187, some 188, some 189, some 190, some 191, some 192, some 193, some 194, some 195, some 196, some 197, some 198, some 199, some 200, some 201, some 202, some 203, some 204, some 205, some 206, some 207, some 208, some 209, some 8] [some (.bool true), some (.bool true), some (.bool true), some (.bool true), some (.bool true), some (.bool true), some (.bool true), some (.bool true), some (.bool true), some (.bool true), some (.bool true), some (.bool true), some (.bool true), some (.bool true), some (.bool true), some (.bool true), some (.bool true), some (.int .i64 k), some (.pointer (some ⟨NU, 0, none⟩)), some (.pointer (some ⟨NU, k, none⟩)), some (.int .u32 (gU.r k)), some (.int .u32 v), some (.bool true), some (.bool true), some (.bool true), some (.int .i64 j), some (.pointer (some ⟨NW, 0, none⟩)), some (.pointer (some ⟨NW, j, none⟩)), some (.int .u32 (gW.r j)), some (.int .u32 v), some (.int .u32 (v / 256)), some (.int .u32 (v / 256 % 256)), some (.bool true), some (.bool true), some (.bool true), some (.int .i64 j), some (.pointer (some ⟨NX, 0, none⟩)), some (.pointer (some ⟨NX, j, none⟩)), some (.int .u32 (gX.r j)), some (.int .u32 v), some (.int .u32 (v / 256)), some (.int .i8 (IntKind.i8.wrap (v / 256))), some (.int .i32 (IntKind.i8.wrap (v / 256))), some (.int .u32 xv), some (.bool true), some (.bool true), some (.bool true), some (.int .i64 j), some (.pointer (some ⟨NY, 0, none⟩)), some (.pointer (some ⟨NY, j, none⟩)), some (.int .u32 (gY.r j)), some (.int .u32 v), some (.bool true), some (.bool true), some (.bool true), some (.int .i64 k), some (.int .i64 j), some (.bool true), some (.bool true), some (undef), some (undef), some (undef), some (undef), some (undef), some (undef), some (undef), some (undef), some (undef), some (.bool true), some (.bool true), some (.bool true), some (.int .i64 k), some (.pointer (some ⟨NZ, 0, none⟩)), some (.pointer (some ⟨NZ, k, none⟩)), some (.int .u32 (gZ.r k)), some (.int .u32 v), some (.bool true), some (.bool true), some (.bool true), some (.pointer (some ⟨NY, 9, none⟩)), some (.agg #[.bool (gY.f 0), .bool (gY.f 1), .bool (gY.f 2), .bool (gY.f 3), .bool (gY.f 4), .bool (gY.f 5)]), some (.pointer (some ⟨S, 9, none⟩)), some (.agg #[.bool (g.f 0), .bool (g.f 1), .bool (g.f 2), .bool (g.f 3), .bool (g.f 4), .bool (g.f 5)]), some (.bool true), some (.bool true), some (.bool true), some (.pointer (some ⟨NX, 9, none⟩)), some (.agg #[.bool (gX.f 0), .bool (gX.f 1), .bool (gX.f 2), .bool (gX.f 3), .bool (gX.f 4), .bool (gX.f 5)]), some (.pointer (some ⟨S, 9, none⟩)), some (.agg #[.bool (g.f 0), .bool (g.f 1), .bool (g.f 2), .bool (g.f 3), .bool (g.f 4), .bool (g.f 5)]), some (.bool true), some (.bool true), some (.bool true), some (.pointer (some ⟨NT, 8, none⟩)), some (.int .u32 gT.pc), some (.pointer (some ⟨S, 8, none⟩)), some (.int .u32 g.pc), some (.int .u32 ((g.pc + 10) % 4294967296)), some (.bool true), some (.bool true), some (.bool true)] (RI (fun _ W => Pg S w W B (mW v)) B 101 101 [(NZ, 29, stA gZ), (NY, 29, stA gY), (NX, 29, stA gX), (NW, 29, stA gW), (NU, 29, stA gU), (NT, 29, stA gT), (S, 29, stA g)] []) (fun _ => 0) (by kernel_rfl) (by kernel_rfl) (fun s => ?_) (RI.start p.drew (fun x hx => (kk.out x hx).drew) _) ?_ (fun s Wq h => ?_)
    rotate_left
    · simp only [vsOf, putD, Act.put, Nat.reduceAdd, List.setIfInBounds_toArray, List.set_cons_zero, List.set_cons_succ]
      rfl
    · refine AllOps.cons ?_ (AllOps.cons ?_ (AllOps.cons ?_ (AllOps.cons ?_ (AllOps.cons ?_ (AllOps.cons ?_ (AllOps.cons ?_ (AllOps.cons ?_ (AllOps.cons ?_ (AllOps.cons ?_ (AllOps.cons ?_ (AllOps.cons ?_ (AllOps.cons ?_ (AllOps.cons ?_ (AllOps.cons ?_ (AllOps.cons ?_ (AllOps.cons ?_ (AllOps.cons ?_ (AllOps.cons ?_ (AllOps.cons ?_ (AllOps.cons ?_ (AllOps.cons ?_ (AllOps.cons ?_ (AllOps.cons ?_ (AllOps.cons ?_ (AllOps.cons ?_ (AllOps.cons ?_ (AllOps.cons ?_ (AllOps.cons ?_ (AllOps.cons ?_ (AllOps.cons ?_ (AllOps.cons ?_ (AllOps.cons ?_ (AllOps.cons ?_ (AllOps.cons ?_ (AllOps.cons ?_ (AllOps.cons ?_ (AllOps.cons ?_ (AllOps.cons ?_ (AllOps.cons ?_ (AllOps.cons ?_ (AllOps.cons ?_ (AllOps.cons ?_ (AllOps.cons ?_ (AllOps.cons ?_ (AllOps.cons ?_ (AllOps.cons ?_ (AllOps.cons ?_ (AllOps.cons ?_ (AllOps.cons ?_ (AllOps.cons ?_ (AllOps.cons ?_ (AllOps.cons ?_ (AllOps.cons ?_ (AllOps.cons ?_ (AllOps.cons ?_ (AllOps.cons ?_ (AllOps.cons ?_ (AllOps.cons ?_ (AllOps.cons ?_ (AllOps.cons ?_ (AllOps.cons ?_ (AllOps.cons ?_ (AllOps.cons ?_ (AllOps.cons ?_ (AllOps.cons ?_ (AllOps.cons ?_ (AllOps.cons ?_ (AllOps.cons ?_ (AllOps.cons ?_ (AllOps.cons ?_ (AllOps.cons ?_ (AllOps.cons ?_ (AllOps.cons ?_ (AllOps.cons ?_ (AllOps.cons ?_ (AllOps.cons ?_ (AllOps.cons ?_ (AllOps.cons ?_ (AllOps.cons ?_ (AllOps.cons ?_ (AllOps.cons ?_ (AllOps.cons ?_ (AllOps.cons ?_ (AllOps.cons ?_ (AllOps.cons ?_ (AllOps.cons ?_ (AllOps.cons ?_ (AllOps.cons ?_ (AllOps.cons ?_ (AllOps.cons ?_ (AllOps.cons ?_ (AllOps.cons ?_ (AllOps.cons ?_ (AllOps.cons ?_ (AllOps.cons ?_ (AllOps.cons ?_ (AllOps.cons ?_ (AllOps.cons ?_ (AllOps.cons ?_ (AllOps.cons ?_ AllOps.nil))))))))))))))))))))))))))))))))))))))))))))))))))))))))))))))))))))))))))))))))))))))))))))))))))))
      · refine ObOp.val (fun s => .bool true) (by kernel_rfl) (fun _ => rfl) (fun s => by kernel_rfl) (fun s D w hd hcl h => ?_)
        go_simp
        try rfl
      · refine ObOp.val (fun s => .bool true) (by kernel_rfl) (fun _ => rfl) (fun s => by kernel_rfl) (fun s D w hd hcl h => ?_)
        go_simp
        try rfl
      · refine ObOp.val (fun s => .bool true) (by kernel_rfl) (fun _ => rfl) (fun s => by kernel_rfl) (fun s D w hd hcl h => ?_)
        go_simp
        try rfl
      · refine ObOp.val (fun s => .bool true) (by kernel_rfl) (fun _ => rfl) (fun s => by kernel_rfl) (fun s D w hd hcl h => ?_)
        go_simp
        try rfl
      · refine ObOp.val (fun s => .bool true) (by kernel_rfl) (fun _ => rfl) (fun s => by kernel_rfl) (fun s D w hd hcl h => ?_)
        go_simp
        try rfl
      · refine ObOp.val (fun s => .bool true) (by kernel_rfl) (fun _ => rfl) (fun s => by kernel_rfl) (fun s D w hd hcl h => ?_)
        go_simp
        try rfl
      · refine ObOp.val (fun s => .bool true) (by kernel_rfl) (fun _ => rfl) (fun s => by kernel_rfl) (fun s D w hd hcl h => ?_)
        go_simp
        try rfl
      · refine ObOp.val (fun s => .bool true) (by kernel_rfl) (fun _ => rfl) (fun s => by kernel_rfl) (fun s D w hd hcl h => ?_)
        go_simp
        try rfl
      · refine ObOp.val (fun s => .bool true) (by kernel_rfl) (fun _ => rfl) (fun s => by kernel_rfl) (fun s D w hd hcl h => ?_)
        go_simp
        try rfl
      · refine ObOp.val (fun s => .bool true) (by kernel_rfl) (fun _ => rfl) (fun s => by kernel_rfl) (fun s D w hd hcl h => ?_)
        go_simp
        try rfl
      · refine ObOp.val (fun s => .bool true) (by kernel_rfl) (fun _ => rfl) (fun s => by kernel_rfl) (fun s D w hd hcl h => ?_)
        go_simp
        try rfl
      · refine ObOp.val (fun s => .bool true) (by kernel_rfl) (fun _ => rfl) (fun s => by kernel_rfl) (fun s D w hd hcl h => ?_)
        go_simp
        try rfl
      · refine ObOp.val (fun s => .bool true) (by kernel_rfl) (fun _ => rfl) (fun s => by kernel_rfl) (fun s D w hd hcl h => ?_)
        go_simp
        try rfl
      · refine ObOp.val (fun s => .bool true) (by kernel_rfl) (fun _ => rfl) (fun s => by kernel_rfl) (fun s D w hd hcl h => ?_)
        go_simp
        try rfl
      · refine ObOp.val (fun s => .bool true) (by kernel_rfl) (fun _ => rfl) (fun s => by kernel_rfl) (fun s D w hd hcl h => ?_)
        go_simp
        try rfl
      · refine ObOp.val (fun s => .bool true) (by kernel_rfl) (fun _ => rfl) (fun s => by kernel_rfl) (fun s D w hd hcl h => ?_)
        go_simp
        try rfl
      · refine ObOp.val (fun s => .bool true) (by kernel_rfl) (fun _ => rfl) (fun s => by kernel_rfl) (fun s D w hd hcl h => ?_)
        go_simp
        try rfl
      · refine ObOp.val (fun s => .int .i64 k) (by kernel_rfl) (fun _ => rfl) (fun s => by kernel_rfl) (fun s D w hd hcl h => ?_)
        go_simp
        try rfl
      · refine ObOp.val (fun s => .pointer (some ⟨NU, 0, none⟩)) (by kernel_rfl) (fun _ => rfl) (fun s => by kernel_rfl) (fun s D w hd hcl h => ?_)
        go_simp
        try rfl
      · refine ObOp.val (fun s => .pointer (some ⟨NU, k, none⟩)) (by kernel_rfl) (fun _ => rfl) (fun s => by kernel_rfl) (fun s D w hd hcl h => ?_)
        have hix := ix_r8 NU k hk w
        go_simp
        try rfl
      · refine ObOp.val (fun s => .int .u32 (gU.r k)) (by kernel_rfl) (fun _ => rfl) (fun s => by kernel_rfl) (fun s D w hd hcl h => ?_)
        have c := (h.k _ (List.mem_cons_of_mem _ (List.mem_cons_of_mem _ (List.mem_cons_of_mem _ (List.mem_cons_of_mem _ List.mem_cons_self))))).cell (st_at gU hk)
        go_simp
        try rfl
      · refine ObOp.val (fun s => .int .u32 v) (by kernel_rfl) (fun _ => rfl) (fun s => by kernel_rfl) (fun s D w hd hcl h => ?_)
        go_simp
        try rfl
      · refine ObOp.val (fun s => .bool true) (by kernel_rfl) (fun _ => rfl) (fun s => by kernel_rfl) (fun s D w hd hcl h => ?_)
        go_simp
        try exact hU
      · refine ObOp.val (fun s => .bool true) (by kernel_rfl) (fun _ => rfl) (fun s => by kernel_rfl) (fun s D w hd hcl h => ?_)
        go_simp
        try rfl
      · refine ObOp.val (fun s => .bool true) (by kernel_rfl) (fun _ => rfl) (fun s => by kernel_rfl) (fun s D w hd hcl h => ?_)
        go_simp
        try rfl
      · refine ObOp.val (fun s => .int .i64 j) (by kernel_rfl) (fun _ => rfl) (fun s => by kernel_rfl) (fun s D w hd hcl h => ?_)
        go_simp
        try rfl
      · refine ObOp.val (fun s => .pointer (some ⟨NW, 0, none⟩)) (by kernel_rfl) (fun _ => rfl) (fun s => by kernel_rfl) (fun s D w hd hcl h => ?_)
        go_simp
        try rfl
      · refine ObOp.val (fun s => .pointer (some ⟨NW, j, none⟩)) (by kernel_rfl) (fun _ => rfl) (fun s => by kernel_rfl) (fun s D w hd hcl h => ?_)
        have hix := ix_r8 NW j hj w
        go_simp
        try rfl
      · refine ObOp.val (fun s => .int .u32 (gW.r j)) (by kernel_rfl) (fun _ => rfl) (fun s => by kernel_rfl) (fun s D w hd hcl h => ?_)
        have c := (h.k _ (List.mem_cons_of_mem _ (List.mem_cons_of_mem _ (List.mem_cons_of_mem _ List.mem_cons_self)))).cell (st_at gW hj)
        go_simp
        try rfl
      · refine ObOp.val (fun s => .int .u32 v) (by kernel_rfl) (fun _ => rfl) (fun s => by kernel_rfl) (fun s D w hd hcl h => ?_)
        go_simp
        try rfl
      · refine ObOp.val (fun s => .int .u32 (v / 256)) (by kernel_rfl) (fun _ => rfl) (fun s => by kernel_rfl) (fun s D w hd hcl h => ?_)
        go_simp
        try rfl
      · refine ObOp.val (fun s => .int .u32 (v / 256 % 256)) (by kernel_rfl) (fun _ => rfl) (fun s => by kernel_rfl) (fun s D w hd hcl h => ?_)
        go_simp
        try exact hand
      · refine ObOp.val (fun s => .bool true) (by kernel_rfl) (fun _ => rfl) (fun s => by kernel_rfl) (fun s D w hd hcl h => ?_)
        go_simp
        try exact hW
      · refine ObOp.val (fun s => .bool true) (by kernel_rfl) (fun _ => rfl) (fun s => by kernel_rfl) (fun s D w hd hcl h => ?_)
        go_simp
        try rfl
      · refine ObOp.val (fun s => .bool true) (by kernel_rfl) (fun _ => rfl) (fun s => by kernel_rfl) (fun s D w hd hcl h => ?_)
        go_simp
        try rfl
      · refine ObOp.val (fun s => .int .i64 j) (by kernel_rfl) (fun _ => rfl) (fun s => by kernel_rfl) (fun s D w hd hcl h => ?_)
        go_simp
        try rfl
      · refine ObOp.val (fun s => .pointer (some ⟨NX, 0, none⟩)) (by kernel_rfl) (fun _ => rfl) (fun s => by kernel_rfl) (fun s D w hd hcl h => ?_)
        go_simp
        try rfl
      · refine ObOp.val (fun s => .pointer (some ⟨NX, j, none⟩)) (by kernel_rfl) (fun _ => rfl) (fun s => by kernel_rfl) (fun s D w hd hcl h => ?_)
        have hix := ix_r8 NX j hj w
        go_simp
        try rfl
      · refine ObOp.val (fun s => .int .u32 (gX.r j)) (by kernel_rfl) (fun _ => rfl) (fun s => by kernel_rfl) (fun s D w hd hcl h => ?_)
        have c := (h.k _ (List.mem_cons_of_mem _ (List.mem_cons_of_mem _ List.mem_cons_self))).cell (st_at gX hj)
        go_simp
        try rfl
      · refine ObOp.val (fun s => .int .u32 v) (by kernel_rfl) (fun _ => rfl) (fun s => by kernel_rfl) (fun s D w hd hcl h => ?_)
        go_simp
        try rfl
      · refine ObOp.val (fun s => .int .u32 (v / 256)) (by kernel_rfl) (fun _ => rfl) (fun s => by kernel_rfl) (fun s D w hd hcl h => ?_)
        go_simp
        try rfl
      · refine ObOp.val (fun s => .int .i8 (IntKind.i8.wrap (v / 256))) (by kernel_rfl) (fun _ => rfl) (fun s => by kernel_rfl) (fun s D w hd hcl h => ?_)
        go_simp
        try rfl
      · refine ObOp.val (fun s => .int .i32 (IntKind.i8.wrap (v / 256))) (by kernel_rfl) (fun _ => rfl) (fun s => by kernel_rfl) (fun s D w hd hcl h => ?_)
        go_simp
        try exact hc1
      · refine ObOp.val (fun s => .int .u32 xv) (by kernel_rfl) (fun _ => rfl) (fun s => by kernel_rfl) (fun s D w hd hcl h => ?_)
        go_simp
        try exact hc2
      · refine ObOp.val (fun s => .bool true) (by kernel_rfl) (fun _ => rfl) (fun s => by kernel_rfl) (fun s D w hd hcl h => ?_)
        go_simp
        try exact hX
      · refine ObOp.val (fun s => .bool true) (by kernel_rfl) (fun _ => rfl) (fun s => by kernel_rfl) (fun s D w hd hcl h => ?_)
        go_simp
        try rfl
      · refine ObOp.val (fun s => .bool true) (by kernel_rfl) (fun _ => rfl) (fun s => by kernel_rfl) (fun s D w hd hcl h => ?_)
        go_simp
        try rfl
      · refine ObOp.val (fun s => .int .i64 j) (by kernel_rfl) (fun _ => rfl) (fun s => by kernel_rfl) (fun s D w hd hcl h => ?_)
        go_simp
        try rfl
      · refine ObOp.val (fun s => .pointer (some ⟨NY, 0, none⟩)) (by kernel_rfl) (fun _ => rfl) (fun s => by kernel_rfl) (fun s D w hd hcl h => ?_)
        go_simp
        try rfl
      · refine ObOp.val (fun s => .pointer (some ⟨NY, j, none⟩)) (by kernel_rfl) (fun _ => rfl) (fun s => by kernel_rfl) (fun s D w hd hcl h => ?_)
        have hix := ix_r8 NY j hj w
        go_simp
        try rfl
      · refine ObOp.val (fun s => .int .u32 (gY.r j)) (by kernel_rfl) (fun _ => rfl) (fun s => by kernel_rfl) (fun s D w hd hcl h => ?_)
        have c := (h.k _ (List.mem_cons_of_mem _ List.mem_cons_self)).cell (st_at gY hj)
        go_simp
        try rfl
      · refine ObOp.val (fun s => .int .u32 v) (by kernel_rfl) (fun _ => rfl) (fun s => by kernel_rfl) (fun s D w hd hcl h => ?_)
        go_simp
        try rfl
      · refine ObOp.val (fun s => .bool true) (by kernel_rfl) (fun _ => rfl) (fun s => by kernel_rfl) (fun s D w hd hcl h => ?_)
        go_simp
        try exact hY
      · refine ObOp.val (fun s => .bool true) (by kernel_rfl) (fun _ => rfl) (fun s => by kernel_rfl) (fun s D w hd hcl h => ?_)
        go_simp
        try rfl
      · refine ObOp.val (fun s => .bool true) (by kernel_rfl) (fun _ => rfl) (fun s => by kernel_rfl) (fun s D w hd hcl h => ?_)
        go_simp
        try rfl
      · refine ObOp.val (fun s => .int .i64 k) (by kernel_rfl) (fun _ => rfl) (fun s => by kernel_rfl) (fun s D w hd hcl h => ?_)
        go_simp
        try rfl
      · refine ObOp.val (fun s => .int .i64 j) (by kernel_rfl) (fun _ => rfl) (fun s => by kernel_rfl) (fun s D w hd hcl h => ?_)
        go_simp
        try rfl
      · refine ObOp.val (fun s => .bool true) (by kernel_rfl) (fun _ => rfl) (fun s => by kernel_rfl) (fun s D w hd hcl h => ?_)
        go_simp
        try exact ekj
      · refine ObOp.val (fun s => .bool true) (by kernel_rfl) (fun _ => rfl) (fun s => by kernel_rfl) (fun s D w hd hcl h => ?_)
        go_simp
        try rfl
      · exact ObOp.skip (by kernel_rfl) (fun _ => rfl) (fun s => by kernel_rfl)
      · exact ObOp.skip (by kernel_rfl) (fun _ => rfl) (fun s => by kernel_rfl)
      · exact ObOp.skip (by kernel_rfl) (fun _ => rfl) (fun s => by kernel_rfl)
      · exact ObOp.skip (by kernel_rfl) (fun _ => rfl) (fun s => by kernel_rfl)
      · exact ObOp.skip (by kernel_rfl) (fun _ => rfl) (fun s => by kernel_rfl)
      · exact ObOp.skip (by kernel_rfl) (fun _ => rfl) (fun s => by kernel_rfl)
      · exact ObOp.skip (by kernel_rfl) (fun _ => rfl) (fun s => by kernel_rfl)
      · exact ObOp.skip (by kernel_rfl) (fun _ => rfl) (fun s => by kernel_rfl)
      · exact ObOp.skip (by kernel_rfl) (fun _ => rfl) (fun s => by kernel_rfl)
      · refine ObOp.val (fun s => .bool true) (by kernel_rfl) (fun _ => rfl) (fun s => by kernel_rfl) (fun s D w hd hcl h => ?_)
        go_simp
        try rfl
      · refine ObOp.val (fun s => .bool true) (by kernel_rfl) (fun _ => rfl) (fun s => by kernel_rfl) (fun s D w hd hcl h => ?_)
        go_simp
        try rfl
      · refine ObOp.val (fun s => .bool true) (by kernel_rfl) (fun _ => rfl) (fun s => by kernel_rfl) (fun s D w hd hcl h => ?_)
        go_simp
        try rfl
      · refine ObOp.val (fun s => .int .i64 k) (by kernel_rfl) (fun _ => rfl) (fun s => by kernel_rfl) (fun s D w hd hcl h => ?_)
        go_simp
        try rfl
      · refine ObOp.val (fun s => .pointer (some ⟨NZ, 0, none⟩)) (by kernel_rfl) (fun _ => rfl) (fun s => by kernel_rfl) (fun s D w hd hcl h => ?_)
        go_simp
        try rfl
      · refine ObOp.val (fun s => .pointer (some ⟨NZ, k, none⟩)) (by kernel_rfl) (fun _ => rfl) (fun s => by kernel_rfl) (fun s D w hd hcl h => ?_)
        have hix := ix_r8 NZ k hk w
        go_simp
        try rfl
      · refine ObOp.val (fun s => .int .u32 (gZ.r k)) (by kernel_rfl) (fun _ => rfl) (fun s => by kernel_rfl) (fun s D w hd hcl h => ?_)
        have c := (h.k _ List.mem_cons_self).cell (st_at gZ hk)
        go_simp
        try rfl
      · refine ObOp.val (fun s => .int .u32 v) (by kernel_rfl) (fun _ => rfl) (fun s => by kernel_rfl) (fun s D w hd hcl h => ?_)
        go_simp
        try rfl
      · refine ObOp.val (fun s => .bool true) (by kernel_rfl) (fun _ => rfl) (fun s => by kernel_rfl) (fun s D w hd hcl h => ?_)
        go_simp
        try exact hZ
      · refine ObOp.val (fun s => .bool true) (by kernel_rfl) (fun _ => rfl) (fun s => by kernel_rfl) (fun s D w hd hcl h => ?_)
        go_simp
        try rfl
      · refine ObOp.val (fun s => .bool true) (by kernel_rfl) (fun _ => rfl) (fun s => by kernel_rfl) (fun s D w hd hcl h => ?_)
        go_simp
        try rfl
      · refine ObOp.val (fun s => .pointer (some ⟨NY, 9, none⟩)) (by kernel_rfl) (fun _ => rfl) (fun s => by kernel_rfl) (fun s D w hd hcl h => ?_)
        go_simp
        try rfl
      · refine ObOp.val (fun s => .agg #[.bool (gY.f 0), .bool (gY.f 1), .bool (gY.f 2), .bool (gY.f 3), .bool (gY.f 4), .bool (gY.f 5)]) (by kernel_rfl) (fun _ => rfl) (fun s => by kernel_rfl) (fun s D w hd hcl h => ?_)
        exact run_load_mid (by rfl) (by rfl) _ _ (Blk.rangeF (h.k _ (List.mem_cons_of_mem _ List.mem_cons_self))) Tryz.underlying26 rfl (by kernel_rfl)
      · refine ObOp.val (fun s => .pointer (some ⟨S, 9, none⟩)) (by kernel_rfl) (fun _ => rfl) (fun s => by kernel_rfl) (fun s D w hd hcl h => ?_)
        go_simp
        try rfl
      · refine ObOp.val (fun s => .agg #[.bool (g.f 0), .bool (g.f 1), .bool (g.f 2), .bool (g.f 3), .bool (g.f 4), .bool (g.f 5)]) (by kernel_rfl) (fun _ => rfl) (fun s => by kernel_rfl) (fun s D w hd hcl h => ?_)
        exact run_load_mid (by rfl) (by rfl) _ _ (Blk.rangeF (h.k _ (List.mem_cons_of_mem _ (List.mem_cons_of_mem _ (List.mem_cons_of_mem _ (List.mem_cons_of_mem _ (List.mem_cons_of_mem _ (List.mem_cons_of_mem _ List.mem_cons_self)))))))) Tryz.underlying26 rfl (by kernel_rfl)
      · refine ObOp.val (fun s => .bool true) (by kernel_rfl) (fun _ => rfl) (fun s => by kernel_rfl) (fun s D w hd hcl h => ?_)
        go_simp
        try rfl
      · refine ObOp.val (fun s => .bool true) (by kernel_rfl) (fun _ => rfl) (fun s => by kernel_rfl) (fun s D w hd hcl h => ?_)
        go_simp
        try rfl
      · refine ObOp.val (fun s => .bool true) (by kernel_rfl) (fun _ => rfl) (fun s => by kernel_rfl) (fun s D w hd hcl h => ?_)
        go_simp
        try rfl
      · refine ObOp.val (fun s => .pointer (some ⟨NX, 9, none⟩)) (by kernel_rfl) (fun _ => rfl) (fun s => by kernel_rfl) (fun s D w hd hcl h => ?_)
        go_simp
        try rfl
      · refine ObOp.val (fun s => .agg #[.bool (gX.f 0), .bool (gX.f 1), .bool (gX.f 2), .bool (gX.f 3), .bool (gX.f 4), .bool (gX.f 5)]) (by kernel_rfl) (fun _ => rfl) (fun s => by kernel_rfl) (fun s D w hd hcl h => ?_)
        exact run_load_mid (by rfl) (by rfl) _ _ (Blk.rangeF (h.k _ (List.mem_cons_of_mem _ (List.mem_cons_of_mem _ List.mem_cons_self)))) Tryz.underlying26 rfl (by kernel_rfl)
      · refine ObOp.val (fun s => .pointer (some ⟨S, 9, none⟩)) (by kernel_rfl) (fun _ => rfl) (fun s => by kernel_rfl) (fun s D w hd hcl h => ?_)
        go_simp
        try rfl
      · refine ObOp.val (fun s => .agg #[.bool (g.f 0), .bool (g.f 1), .bool (g.f 2), .bool (g.f 3), .bool (g.f 4), .bool (g.f 5)]) (by kernel_rfl) (fun _ => rfl) (fun s => by kernel_rfl) (fun s D w hd hcl h => ?_)
        exact run_load_mid (by rfl) (by rfl) _ _ (Blk.rangeF (h.k _ (List.mem_cons_of_mem _ (List.mem_cons_of_mem _ (List.mem_cons_of_mem _ (List.mem_cons_of_mem _ (List.mem_cons_of_mem _ (List.mem_cons_of_mem _ List.mem_cons_self)))))))) Tryz.underlying26 rfl (by kernel_rfl)
      · refine ObOp.val (fun s => .bool true) (by kernel_rfl) (fun _ => rfl) (fun s => by kernel_rfl) (fun s D w hd hcl h => ?_)
        go_simp
        try rfl
      · refine ObOp.val (fun s => .bool true) (by kernel_rfl) (fun _ => rfl) (fun s => by kernel_rfl) (fun s D w hd hcl h => ?_)
        go_simp
        try rfl
      · refine ObOp.val (fun s => .bool true) (by kernel_rfl) (fun _ => rfl) (fun s => by kernel_rfl) (fun s D w hd hcl h => ?_)
        go_simp
        try rfl
      · refine ObOp.val (fun s => .pointer (some ⟨NT, 8, none⟩)) (by kernel_rfl) (fun _ => rfl) (fun s => by kernel_rfl) (fun s D w hd hcl h => ?_)
        go_simp
        try rfl
      · refine ObOp.val (fun s => .int .u32 gT.pc) (by kernel_rfl) (fun _ => rfl) (fun s => by kernel_rfl) (fun s D w hd hcl h => ?_)
        have c := (h.k _ (List.mem_cons_of_mem _ (List.mem_cons_of_mem _ (List.mem_cons_of_mem _ (List.mem_cons_of_mem _ (List.mem_cons_of_mem _ List.mem_cons_self)))))).cell (i := 8) (v := .int .u32 gT.pc) rfl
        go_simp
        try rfl
      · refine ObOp.val (fun s => .pointer (some ⟨S, 8, none⟩)) (by kernel_rfl) (fun _ => rfl) (fun s => by kernel_rfl) (fun s D w hd hcl h => ?_)
        go_simp
        try rfl
      · refine ObOp.val (fun s => .int .u32 g.pc) (by kernel_rfl) (fun _ => rfl) (fun s => by kernel_rfl) (fun s D w hd hcl h => ?_)
        have c := (h.k _ (List.mem_cons_of_mem _ (List.mem_cons_of_mem _ (List.mem_cons_of_mem _ (List.mem_cons_of_mem _ (List.mem_cons_of_mem _ (List.mem_cons_of_mem _ List.mem_cons_self))))))).cell (i := 8) (v := .int .u32 g.pc) rfl
        go_simp
        try rfl
      · refine ObOp.val (fun s => .int .u32 ((g.pc + 10) % 4294967296)) (by kernel_rfl) (fun _ => rfl) (fun s => by kernel_rfl) (fun s D w hd hcl h => ?_)
        go_simp
        try rfl
      · refine ObOp.val (fun s => .bool true) (by kernel_rfl) (fun _ => rfl) (fun s => by kernel_rfl) (fun s D w hd hcl h => ?_)
        go_simp
        try exact hP
      · refine ObOp.val (fun s => .bool true) (by kernel_rfl) (fun _ => rfl) (fun s => by kernel_rfl) (fun s D w hd hcl h => ?_)
        go_simp
        try rfl
      · refine ObOp.val (fun s => .bool true) (by kernel_rfl) (fun _ => rfl) (fun s => by kernel_rfl) (fun s D w hd hcl h => ?_)
        go_simp
        try rfl
    go_wp2_with fail
    exact bodyPost_ret (v := .bool true) (by simp [results, Tryz.results10, go_sem]) rfl ⟨rfl, by rw [hS0]; exact h.g.done⟩
  · have ekj : ((k : Int) == (j : Int)) = false := by simpa using (by omega : ¬ (k : Int) = j)
    replace hN := hN hkj
    clear hkj
    refine wp_region_inv (F := ?_) (fun _ _ => False) (fun _ _ _ _ h => h.elim) [some 110, some 111, some 112, some 113, some 114, some 115, some 116, some 117, some 118, some 119, some 120, some 121, some 122, some 123, some 124, some 125, some 126, some 127, some 128, some 129, some 130, some 131, some 132, some 133, some 134, some 135, some 136, some 137, some 138, some 139, some 140, some 141, some 142, some 143, some 144, some 145, some 146, some 147, some 148, some 149, some 150, some 151, some 152, some 153, some 154, some 155, some 156, some 157, some 158, some 159, some 160, some 161, some 162, some 163, some 164, some 165, some 166, some 167, some 168, some 169, some 170, some 171, some 172, some 173, some 174, some 175, some 176, some 177, some 178, some 179, some 180, some 181, some 182, some 183, some 184, some 185, some 186, some 187, some 188, some 189, some 190, some 191, some 192, some 193, some 194, some 195, some 196, some 197, some 198, some 199, some 200, some 201, some 202, some 203, some 204, some 205, some 206, some 207, some 208, some 209, some 8] [some (.bool true), some (.bool true), some (.bool true), some (.bool true), some (.bool true), some (.bool true), some (.bool true), some (.bool true), some (.bool true), some (.bool true), some (.bool true), some (.bool true), some (.bool true), some (.bool true), some (.bool true), some (.bool true), some (.bool true), some (.int .i64 k), some (.pointer (some ⟨NU, 0, none⟩)), some (.pointer (some ⟨NU, k, none⟩)), some (.int .u32 (gU.r k)), some (.int .u32 v), some (.bool true), some (.bool true), some (.bool true), some (.int .i64 j), some (.pointer (some ⟨NW, 0, none⟩)), some (.pointer (some ⟨NW, j, none⟩)), some (.int .u32 (gW.r j)), some (.int .u32 v), some (.int .u32 (v / 256)), some (.int .u32 (v / 256 % 256)), some (.bool true), some (.bool true), some (.bool true), some (.int .i64 j), some (.pointer (some ⟨NX, 0, none⟩)), some (.pointer (some ⟨NX, j, none⟩)), some (.int .u32 (gX.r j)), some (.int .u32 v), some (.int .u32 (v / 256)), some (.int .i8 (IntKind.i8.wrap (v / 256))), some (.int .i32 (IntKind.i8.wrap (v / 256))), some (.int .u32 xv), some (.bool true), some (.bool true), some (.bool true), some (.int .i64 j), some (.pointer (some ⟨NY, 0, none⟩)), some (.pointer (some ⟨NY, j, none⟩)), some (.int .u32 (gY.r j)), some (.int .u32 v), some (.bool true), some (.bool true), some (.bool true), some (.int .i64 k), some (.int .i64 j), some (.bool false), some (.bool false), some (.int .i64 k), some (.pointer (some ⟨NY, 0, none⟩)), some (.pointer (some ⟨NY, k, none⟩)), some (.int .u32 (gY.r k)), some (.int .i64 j), some (.pointer (some ⟨NT, 0, none⟩)), some (.pointer (some ⟨NT, j, none⟩)), some (.int .u32 (gT.r j)), some (.bool true), some (.bool true), some (.bool true), some (.bool true), some (.int .i64 k), some (.pointer (some ⟨NZ, 0, none⟩)), some (.pointer (some ⟨NZ, k, none⟩)), some (.int .u32 (gZ.r k)), some (.int .u32 v), some (.bool true), some (.bool true), some (.bool true), some (.pointer (some ⟨NY, 9, none⟩)), some (.agg #[.bool (gY.f 0), .bool (gY.f 1), .bool (gY.f 2), .bool (gY.f 3), .bool (gY.f 4), .bool (gY.f 5)]), some (.pointer (some ⟨S, 9, none⟩)), some (.agg #[.bool (g.f 0), .bool (g.f 1), .bool (g.f 2), .bool (g.f 3), .bool (g.f 4), .bool (g.f 5)]), some (.bool true), some (.bool true), some (.bool true), some (.pointer (some ⟨NX, 9, none⟩)), some (.agg #[.bool (gX.f 0), .bool (gX.f 1), .bool (gX.f 2), .bool (gX.f 3), .bool (gX.f 4), .bool (gX.f 5)]), some (.pointer (some ⟨S, 9, none⟩)), some (.agg #[.bool (g.f 0), .bool (g.f 1), .bool (g.f 2), .bool (g.f 3), .bool (g.f 4), .bool (g.f 5)]), some (.bool true), some (.bool true), some (.bool true), some (.pointer (some ⟨NT, 8, none⟩)), some (.int .u32 gT.pc), some (.pointer (some ⟨S, 8, none⟩)), some (.int .u32 g.pc), some (.int .u32 ((g.pc + 10) % 4294967296)), some (.bool true), some (.bool true), some (.bool true)] (RI (fun _ W => Pg S w W B (mW v)) B 101 101 [(NZ, 29, stA gZ), (NY, 29, stA gY), (NX, 29, stA gX), (NW, 29, stA gW), (NU, 29, stA gU), (NT, 29, stA gT), (S, 29, stA g)] []) (fun _ => 0) (by kernel_rfl) (by kernel_rfl) (fun s => ?_) (RI.start p.drew (fun x hx => (kk.out x hx).drew) _) ?_ (fun s Wq h => ?_)
    rotate_left
    · simp only [vsOf, putD, Act.put, Nat.reduceAdd, List.setIfInBounds_toArray, List.set_cons_zero, List.set_cons_succ]
      rfl
    · refine AllOps.cons ?_ (AllOps.cons ?_ (AllOps.cons ?_ (AllOps.cons ?_ (AllOps.cons ?_ (AllOps.cons ?_ (AllOps.cons ?_ (AllOps.cons ?_ (AllOps.cons ?_ (AllOps.cons ?_ (AllOps.cons ?_ (AllOps.cons ?_ (AllOps.cons ?_ (AllOps.cons ?_ (AllOps.cons ?_ (AllOps.cons ?_ (AllOps.cons ?_ (AllOps.cons ?_ (AllOps.cons ?_ (AllOps.cons ?_ (AllOps.cons ?_ (AllOps.cons ?_ (AllOps.cons ?_ (AllOps.cons ?_ (AllOps.cons ?_ (AllOps.cons ?_ (AllOps.cons ?_ (AllOps.cons ?_ (AllOps.cons ?_ (AllOps.cons ?_ (AllOps.cons ?_ (AllOps.cons ?_ (AllOps.cons ?_ (AllOps.cons ?_ (AllOps.cons ?_ (AllOps.cons ?_ (AllOps.cons ?_ (AllOps.cons ?_ (AllOps.cons ?_ (AllOps.cons ?_ (AllOps.cons ?_ (AllOps.cons ?_ (AllOps.cons ?_ (AllOps.cons ?_ (AllOps.cons ?_ (AllOps.cons ?_ (AllOps.cons ?_ (AllOps.cons ?_ (AllOps.cons ?_ (AllOps.cons ?_ (AllOps.cons ?_ (AllOps.cons ?_ (AllOps.cons ?_ (AllOps.cons ?_ (AllOps.cons ?_ (AllOps.cons ?_ (AllOps.cons ?_ (AllOps.cons ?_ (AllOps.cons ?_ (AllOps.cons ?_ (AllOps.cons ?_ (AllOps.cons ?_ (AllOps.cons ?_ (AllOps.cons ?_ (AllOps.cons ?_ (AllOps.cons ?_ (AllOps.cons ?_ (AllOps.cons ?_ (AllOps.cons ?_ (AllOps.cons ?_ (AllOps.cons ?_ (AllOps.cons ?_ (AllOps.cons ?_ (AllOps.cons ?_ (AllOps.cons ?_ (AllOps.cons ?_ (AllOps.cons ?_ (AllOps.cons ?_ (AllOps.cons ?_ (AllOps.cons ?_ (AllOps.cons ?_ (AllOps.cons ?_ (AllOps.cons ?_ (AllOps.cons ?_ (AllOps.cons ?_ (AllOps.cons ?_ (AllOps.cons ?_ (AllOps.cons ?_ (AllOps.cons ?_ (AllOps.cons ?_ (AllOps.cons ?_ (AllOps.cons ?_ (AllOps.cons ?_ (AllOps.cons ?_ (AllOps.cons ?_ (AllOps.cons ?_ (AllOps.cons ?_ (AllOps.cons ?_ (AllOps.cons ?_ (AllOps.cons ?_ (AllOps.cons ?_ AllOps.nil))))))))))))))))))))))))))))))))))))))))))))))))))))))))))))))))))))))))))))))))))))))))))))))))))))
      · refine ObOp.val (fun s => .bool true) (by kernel_rfl) (fun _ => rfl) (fun s => by kernel_rfl) (fun s D w hd hcl h => ?_)
        go_simp
        try rfl
      · refine ObOp.val (fun s => .bool true) (by kernel_rfl) (fun _ => rfl) (fun s => by kernel_rfl) (fun s D w hd hcl h => ?_)
        go_simp
        try rfl
      · refine ObOp.val (fun s => .bool true) (by kernel_rfl) (fun _ => rfl) (fun s => by kernel_rfl) (fun s D w hd hcl h => ?_)
        go_simp
        try rfl
      · refine ObOp.val (fun s => .bool true) (by kernel_rfl) (fun _ => rfl) (fun s => by kernel_rfl) (fun s D w hd hcl h => ?_)
        go_simp
        try rfl
      · refine ObOp.val (fun s => .bool true) (by kernel_rfl) (fun _ => rfl) (fun s => by kernel_rfl) (fun s D w hd hcl h => ?_)
        go_simp
        try rfl
      · refine ObOp.val (fun s => .bool true) (by kernel_rfl) (fun _ => rfl) (fun s => by kernel_rfl) (fun s D w hd hcl h => ?_)
        go_simp
        try rfl
      · refine ObOp.val (fun s => .bool true) (by kernel_rfl) (fun _ => rfl) (fun s => by kernel_rfl) (fun s D w hd hcl h => ?_)
        go_simp
        try rfl
      · refine ObOp.val (fun s => .bool true) (by kernel_rfl) (fun _ => rfl) (fun s => by kernel_rfl) (fun s D w hd hcl h => ?_)
        go_simp
        try rfl
      · refine ObOp.val (fun s => .bool true) (by kernel_rfl) (fun _ => rfl) (fun s => by kernel_rfl) (fun s D w hd hcl h => ?_)
        go_simp
        try rfl
      · refine ObOp.val (fun s => .bool true) (by kernel_rfl) (fun _ => rfl) (fun s => by kernel_rfl) (fun s D w hd hcl h => ?_)
        go_simp
        try rfl
      · refine ObOp.val (fun s => .bool true) (by kernel_rfl) (fun _ => rfl) (fun s => by kernel_rfl) (fun s D w hd hcl h => ?_)
        go_simp
        try rfl
      · refine ObOp.val (fun s => .bool true) (by kernel_rfl) (fun _ => rfl) (fun s => by kernel_rfl) (fun s D w hd hcl h => ?_)
        go_simp
        try rfl
      · refine ObOp.val (fun s => .bool true) (by kernel_rfl) (fun _ => rfl) (fun s => by kernel_rfl) (fun s D w hd hcl h => ?_)
        go_simp
        try rfl
      · refine ObOp.val (fun s => .bool true) (by kernel_rfl) (fun _ => rfl) (fun s => by kernel_rfl) (fun s D w hd hcl h => ?_)
        go_simp
        try rfl
      · refine ObOp.val (fun s => .bool true) (by kernel_rfl) (fun _ => rfl) (fun s => by kernel_rfl) (fun s D w hd hcl h => ?_)
        go_simp
        try rfl
      · refine ObOp.val (fun s => .bool true) (by kernel_rfl) (fun _ => rfl) (fun s => by kernel_rfl) (fun s D w hd hcl h => ?_)
        go_simp
        try rfl
      · refine ObOp.val (fun s => .bool true) (by kernel_rfl) (fun _ => rfl) (fun s => by kernel_rfl) (fun s D w hd hcl h => ?_)
        go_simp
        try rfl
      · refine ObOp.val (fun s => .int .i64 k) (by kernel_rfl) (fun _ => rfl) (fun s => by kernel_rfl) (fun s D w hd hcl h => ?_)
        go_simp
        try rfl
      · refine ObOp.val (fun s => .pointer (some ⟨NU, 0, none⟩)) (by kernel_rfl) (fun _ => rfl) (fun s => by kernel_rfl) (fun s D w hd hcl h => ?_)
        go_simp
        try rfl
      · refine ObOp.val (fun s => .pointer (some ⟨NU, k, none⟩)) (by kernel_rfl) (fun _ => rfl) (fun s => by kernel_rfl) (fun s D w hd hcl h => ?_)
        have hix := ix_r8 NU k hk w
        go_simp
        try rfl
      · refine ObOp.val (fun s => .int .u32 (gU.r k)) (by kernel_rfl) (fun _ => rfl) (fun s => by kernel_rfl) (fun s D w hd hcl h => ?_)
        have c := (h.k _ (List.mem_cons_of_mem _ (List.mem_cons_of_mem _ (List.mem_cons_of_mem _ (List.mem_cons_of_mem _ List.mem_cons_self))))).cell (st_at gU hk)
        go_simp
        try rfl
      · refine ObOp.val (fun s => .int .u32 v) (by kernel_rfl) (fun _ => rfl) (fun s => by kernel_rfl) (fun s D w hd hcl h => ?_)
        go_simp
        try rfl
      · refine ObOp.val (fun s => .bool true) (by kernel_rfl) (fun _ => rfl) (fun s => by kernel_rfl) (fun s D w hd hcl h => ?_)
        go_simp
        try exact hU
      · refine ObOp.val (fun s => .bool true) (by kernel_rfl) (fun _ => rfl) (fun s => by kernel_rfl) (fun s D w hd hcl h => ?_)
        go_simp
        try rfl
      · refine ObOp.val (fun s => .bool true) (by kernel_rfl) (fun _ => rfl) (fun s => by kernel_rfl) (fun s D w hd hcl h => ?_)
        go_simp
        try rfl
      · refine ObOp.val (fun s => .int .i64 j) (by kernel_rfl) (fun _ => rfl) (fun s => by kernel_rfl) (fun s D w hd hcl h => ?_)
        go_simp
        try rfl
      · refine ObOp.val (fun s => .pointer (some ⟨NW, 0, none⟩)) (by kernel_rfl) (fun _ => rfl) (fun s => by kernel_rfl) (fun s D w hd hcl h => ?_)
        go_simp
        try rfl
      · refine ObOp.val (fun s => .pointer (some ⟨NW, j, none⟩)) (by kernel_rfl) (fun _ => rfl) (fun s => by kernel_rfl) (fun s D w hd hcl h => ?_)
        have hix := ix_r8 NW j hj w
        go_simp
        try rfl
      · refine ObOp.val (fun s => .int .u32 (gW.r j)) (by kernel_rfl) (fun _ => rfl) (fun s => by kernel_rfl) (fun s D w hd hcl h => ?_)
        have c := (h.k _ (List.mem_cons_of_mem _ (List.mem_cons_of_mem _ (List.mem_cons_of_mem _ List.mem_cons_self)))).cell (st_at gW hj)
        go_simp
        try rfl
      · refine ObOp.val (fun s => .int .u32 v) (by kernel_rfl) (fun _ => rfl) (fun s => by kernel_rfl) (fun s D w hd hcl h => ?_)
        go_simp
        try rfl
      · refine ObOp.val (fun s => .int .u32 (v / 256)) (by kernel_rfl) (fun _ => rfl) (fun s => by kernel_rfl) (fun s D w hd hcl h => ?_)
        go_simp
        try rfl
      · refine ObOp.val (fun s => .int .u32 (v / 256 % 256)) (by kernel_rfl) (fun _ => rfl) (fun s => by kernel_rfl) (fun s D w hd hcl h => ?_)
        go_simp
        try exact hand
      · refine ObOp.val (fun s => .bool true) (by kernel_rfl) (fun _ => rfl) (fun s => by kernel_rfl) (fun s D w hd hcl h => ?_)
        go_simp
        try exact hW
      · refine ObOp.val (fun s => .bool true) (by kernel_rfl) (fun _ => rfl) (fun s => by kernel_rfl) (fun s D w hd hcl h => ?_)
        go_simp
        try rfl
      · refine ObOp.val (fun s => .bool true) (by kernel_rfl) (fun _ => rfl) (fun s => by kernel_rfl) (fun s D w hd hcl h => ?_)
        go_simp
        try rfl
      · refine ObOp.val (fun s => .int .i64 j) (by kernel_rfl) (fun _ => rfl) (fun s => by kernel_rfl) (fun s D w hd hcl h => ?_)
        go_simp
        try rfl
      · refine ObOp.val (fun s => .pointer (some ⟨NX, 0, none⟩)) (by kernel_rfl) (fun _ => rfl) (fun s => by kernel_rfl) (fun s D w hd hcl h => ?_)
        go_simp
        try rfl
      · refine ObOp.val (fun s => .pointer (some ⟨NX, j, none⟩)) (by kernel_rfl) (fun _ => rfl) (fun s => by kernel_rfl) (fun s D w hd hcl h => ?_)
        have hix := ix_r8 NX j hj w
        go_simp
        try rfl
      · refine ObOp.val (fun s => .int .u32 (gX.r j)) (by kernel_rfl) (fun _ => rfl) (fun s => by kernel_rfl) (fun s D w hd hcl h => ?_)
        have c := (h.k _ (List.mem_cons_of_mem _ (List.mem_cons_of_mem _ List.mem_cons_self))).cell (st_at gX hj)
        go_simp
        try rfl
      · refine ObOp.val (fun s => .int .u32 v) (by kernel_rfl) (fun _ => rfl) (fun s => by kernel_rfl) (fun s D w hd hcl h => ?_)
        go_simp
        try rfl
      · refine ObOp.val (fun s => .int .u32 (v / 256)) (by kernel_rfl) (fun _ => rfl) (fun s => by kernel_rfl) (fun s D w hd hcl h => ?_)
        go_simp
        try rfl
      · refine ObOp.val (fun s => .int .i8 (IntKind.i8.wrap (v / 256))) (by kernel_rfl) (fun _ => rfl) (fun s => by kernel_rfl) (fun s D w hd hcl h => ?_)
        go_simp
        try rfl
      · refine ObOp.val (fun s => .int .i32 (IntKind.i8.wrap (v / 256))) (by kernel_rfl) (fun _ => rfl) (fun s => by kernel_rfl) (fun s D w hd hcl h => ?_)
        go_simp
        try exact hc1
      · refine ObOp.val (fun s => .int .u32 xv) (by kernel_rfl) (fun _ => rfl) (fun s => by kernel_rfl) (fun s D w hd hcl h => ?_)
        go_simp
        try exact hc2
      · refine ObOp.val (fun s => .bool true) (by kernel_rfl) (fun _ => rfl) (fun s => by kernel_rfl) (fun s D w hd hcl h => ?_)
        go_simp
        try exact hX
      · refine ObOp.val (fun s => .bool true) (by kernel_rfl) (fun _ => rfl) (fun s => by kernel_rfl) (fun s D w hd hcl h => ?_)
        go_simp
        try rfl
      · refine ObOp.val (fun s => .bool true) (by kernel_rfl) (fun _ => rfl) (fun s => by kernel_rfl) (fun s D w hd hcl h => ?_)
        go_simp
        try rfl
      · refine ObOp.val (fun s => .int .i64 j) (by kernel_rfl) (fun _ => rfl) (fun s => by kernel_rfl) (fun s D w hd hcl h => ?_)
        go_simp
        try rfl
      · refine ObOp.val (fun s => .pointer (some ⟨NY, 0, none⟩)) (by kernel_rfl) (fun _ => rfl) (fun s => by kernel_rfl) (fun s D w hd hcl h => ?_)
        go_simp
        try rfl
      · refine ObOp.val (fun s => .pointer (some ⟨NY, j, none⟩)) (by kernel_rfl) (fun _ => rfl) (fun s => by kernel_rfl) (fun s D w hd hcl h => ?_)
        have hix := ix_r8 NY j hj w
        go_simp
        try rfl
      · refine ObOp.val (fun s => .int .u32 (gY.r j)) (by kernel_rfl) (fun _ => rfl) (fun s => by kernel_rfl) (fun s D w hd hcl h => ?_)
        have c := (h.k _ (List.mem_cons_of_mem _ List.mem_cons_self)).cell (st_at gY hj)
        go_simp
        try rfl
      · refine ObOp.val (fun s => .int .u32 v) (by kernel_rfl) (fun _ => rfl) (fun s => by kernel_rfl) (fun s D w hd hcl h => ?_)
        go_simp
        try rfl
      · refine ObOp.val (fun s => .bool true) (by kernel_rfl) (fun _ => rfl) (fun s => by kernel_rfl) (fun s D w hd hcl h => ?_)
        go_simp
        try exact hY
      · refine ObOp.val (fun s => .bool true) (by kernel_rfl) (fun _ => rfl) (fun s => by kernel_rfl) (fun s D w hd hcl h => ?_)
        go_simp
        try rfl
      · refine ObOp.val (fun s => .bool true) (by kernel_rfl) (fun _ => rfl) (fun s => by kernel_rfl) (fun s D w hd hcl h => ?_)
        go_simp
        try rfl
      · refine ObOp.val (fun s => .int .i64 k) (by kernel_rfl) (fun _ => rfl) (fun s => by kernel_rfl) (fun s D w hd hcl h => ?_)
        go_simp
        try rfl
      · refine ObOp.val (fun s => .int .i64 j) (by kernel_rfl) (fun _ => rfl) (fun s => by kernel_rfl) (fun s D w hd hcl h => ?_)
        go_simp
        try rfl
      · refine ObOp.val (fun s => .bool false) (by kernel_rfl) (fun _ => rfl) (fun s => by kernel_rfl) (fun s D w hd hcl h => ?_)
        go_simp
        try exact ekj
      · refine ObOp.val (fun s => .bool false) (by kernel_rfl) (fun _ => rfl) (fun s => by kernel_rfl) (fun s D w hd hcl h => ?_)
        go_simp
        try rfl
      · refine ObOp.val (fun s => .int .i64 k) (by kernel_rfl) (fun _ => rfl) (fun s => by kernel_rfl) (fun s D w hd hcl h => ?_)
        go_simp
        try rfl
      · refine ObOp.val (fun s => .pointer (some ⟨NY, 0, none⟩)) (by kernel_rfl) (fun _ => rfl) (fun s => by kernel_rfl) (fun s D w hd hcl h => ?_)
        go_simp
        try rfl
      · refine ObOp.val (fun s => .pointer (some ⟨NY, k, none⟩)) (by kernel_rfl) (fun _ => rfl) (fun s => by kernel_rfl) (fun s D w hd hcl h => ?_)
        have hix := ix_r8 NY k hk w
        go_simp
        try rfl
      · refine ObOp.val (fun s => .int .u32 (gY.r k)) (by kernel_rfl) (fun _ => rfl) (fun s => by kernel_rfl) (fun s D w hd hcl h => ?_)
        have c := (h.k _ (List.mem_cons_of_mem _ List.mem_cons_self)).cell (st_at gY hk)
        go_simp
        try rfl
      · refine ObOp.val (fun s => .int .i64 j) (by kernel_rfl) (fun _ => rfl) (fun s => by kernel_rfl) (fun s D w hd hcl h => ?_)
        go_simp
        try rfl
      · refine ObOp.val (fun s => .pointer (some ⟨NT, 0, none⟩)) (by kernel_rfl) (fun _ => rfl) (fun s => by kernel_rfl) (fun s D w hd hcl h => ?_)
        go_simp
        try rfl
      · refine ObOp.val (fun s => .pointer (some ⟨NT, j, none⟩)) (by kernel_rfl) (fun _ => rfl) (fun s => by kernel_rfl) (fun s D w hd hcl h => ?_)
        have hix := ix_r8 NT j hj w
        go_simp
        try rfl
      · refine ObOp.val (fun s => .int .u32 (gT.r j)) (by kernel_rfl) (fun _ => rfl) (fun s => by kernel_rfl) (fun s D w hd hcl h => ?_)
        have c := (h.k _ (List.mem_cons_of_mem _ (List.mem_cons_of_mem _ (List.mem_cons_of_mem _ (List.mem_cons_of_mem _ (List.mem_cons_of_mem _ List.mem_cons_self)))))).cell (st_at gT hj)
        go_simp
        try rfl
      · refine ObOp.val (fun s => .bool true) (by kernel_rfl) (fun _ => rfl) (fun s => by kernel_rfl) (fun s D w hd hcl h => ?_)
        go_simp
        try exact hN
      · refine ObOp.val (fun s => .bool true) (by kernel_rfl) (fun _ => rfl) (fun s => by kernel_rfl) (fun s D w hd hcl h => ?_)
        go_simp
        try rfl
      · refine ObOp.val (fun s => .bool true) (by kernel_rfl) (fun _ => rfl) (fun s => by kernel_rfl) (fun s D w hd hcl h => ?_)
        go_simp
        try rfl
      · refine ObOp.val (fun s => .bool true) (by kernel_rfl) (fun _ => rfl) (fun s => by kernel_rfl) (fun s D w hd hcl h => ?_)
        go_simp
        try rfl
      · refine ObOp.val (fun s => .int .i64 k) (by kernel_rfl) (fun _ => rfl) (fun s => by kernel_rfl) (fun s D w hd hcl h => ?_)
        go_simp
        try rfl
      · refine ObOp.val (fun s => .pointer (some ⟨NZ, 0, none⟩)) (by kernel_rfl) (fun _ => rfl) (fun s => by kernel_rfl) (fun s D w hd hcl h => ?_)
        go_simp
        try rfl
      · refine ObOp.val (fun s => .pointer (some ⟨NZ, k, none⟩)) (by kernel_rfl) (fun _ => rfl) (fun s => by kernel_rfl) (fun s D w hd hcl h => ?_)
        have hix := ix_r8 NZ k hk w
        go_simp
        try rfl
      · refine ObOp.val (fun s => .int .u32 (gZ.r k)) (by kernel_rfl) (fun _ => rfl) (fun s => by kernel_rfl) (fun s D w hd hcl h => ?_)
        have c := (h.k _ List.mem_cons_self).cell (st_at gZ hk)
        go_simp
        try rfl
      · refine ObOp.val (fun s => .int .u32 v) (by kernel_rfl) (fun _ => rfl) (fun s => by kernel_rfl) (fun s D w hd hcl h => ?_)
        go_simp
        try rfl
      · refine ObOp.val (fun s => .bool true) (by kernel_rfl) (fun _ => rfl) (fun s => by kernel_rfl) (fun s D w hd hcl h => ?_)
        go_simp
        try exact hZ
      · refine ObOp.val (fun s => .bool true) (by kernel_rfl) (fun _ => rfl) (fun s => by kernel_rfl) (fun s D w hd hcl h => ?_)
        go_simp
        try rfl
      · refine ObOp.val (fun s => .bool true) (by kernel_rfl) (fun _ => rfl) (fun s => by kernel_rfl) (fun s D w hd hcl h => ?_)
        go_simp
        try rfl
      · refine ObOp.val (fun s => .pointer (some ⟨NY, 9, none⟩)) (by kernel_rfl) (fun _ => rfl) (fun s => by kernel_rfl) (fun s D w hd hcl h => ?_)
        go_simp
        try rfl
      · refine ObOp.val (fun s => .agg #[.bool (gY.f 0), .bool (gY.f 1), .bool (gY.f 2), .bool (gY.f 3), .bool (gY.f 4), .bool (gY.f 5)]) (by kernel_rfl) (fun _ => rfl) (fun s => by kernel_rfl) (fun s D w hd hcl h => ?_)
        exact run_load_mid (by rfl) (by rfl) _ _ (Blk.rangeF (h.k _ (List.mem_cons_of_mem _ List.mem_cons_self))) Tryz.underlying26 rfl (by kernel_rfl)
      · refine ObOp.val (fun s => .pointer (some ⟨S, 9, none⟩)) (by kernel_rfl) (fun _ => rfl) (fun s => by kernel_rfl) (fun s D w hd hcl h => ?_)
        go_simp
        try rfl
      · refine ObOp.val (fun s => .agg #[.bool (g.f 0), .bool (g.f 1), .bool (g.f 2), .bool (g.f 3), .bool (g.f 4), .bool (g.f 5)]) (by kernel_rfl) (fun _ => rfl) (fun s => by kernel_rfl) (fun s D w hd hcl h => ?_)
        exact run_load_mid (by rfl) (by rfl) _ _ (Blk.rangeF (h.k _ (List.mem_cons_of_mem _ (List.mem_cons_of_mem _ (List.mem_cons_of_mem _ (List.mem_cons_of_mem _ (List.mem_cons_of_mem _ (List.mem_cons_of_mem _ List.mem_cons_self)))))))) Tryz.underlying26 rfl (by kernel_rfl)
      · refine ObOp.val (fun s => .bool true) (by kernel_rfl) (fun _ => rfl) (fun s => by kernel_rfl) (fun s D w hd hcl h => ?_)
        go_simp
        try rfl
      · refine ObOp.val (fun s => .bool true) (by kernel_rfl) (fun _ => rfl) (fun s => by kernel_rfl) (fun s D w hd hcl h => ?_)
        go_simp
        try rfl
      · refine ObOp.val (fun s => .bool true) (by kernel_rfl) (fun _ => rfl) (fun s => by kernel_rfl) (fun s D w hd hcl h => ?_)
        go_simp
        try rfl
      · refine ObOp.val (fun s => .pointer (some ⟨NX, 9, none⟩)) (by kernel_rfl) (fun _ => rfl) (fun s => by kernel_rfl) (fun s D w hd hcl h => ?_)
        go_simp
        try rfl
      · refine ObOp.val (fun s => .agg #[.bool (gX.f 0), .bool (gX.f 1), .bool (gX.f 2), .bool (gX.f 3), .bool (gX.f 4), .bool (gX.f 5)]) (by kernel_rfl) (fun _ => rfl) (fun s => by kernel_rfl) (fun s D w hd hcl h => ?_)
        exact run_load_mid (by rfl) (by rfl) _ _ (Blk.rangeF (h.k _ (List.mem_cons_of_mem _ (List.mem_cons_of_mem _ List.mem_cons_self)))) Tryz.underlying26 rfl (by kernel_rfl)
      · refine ObOp.val (fun s => .pointer (some ⟨S, 9, none⟩)) (by kernel_rfl) (fun _ => rfl) (fun s => by kernel_rfl) (fun s D w hd hcl h => ?_)
        go_simp
        try rfl
      · refine ObOp.val (fun s => .agg #[.bool (g.f 0), .bool (g.f 1), .bool (g.f 2), .bool (g.f 3), .bool (g.f 4), .bool (g.f 5)]) (by kernel_rfl) (fun _ => rfl) (fun s => by kernel_rfl) (fun s D w hd hcl h => ?_)
        exact run_load_mid (by rfl) (by rfl) _ _ (Blk.rangeF (h.k _ (List.mem_cons_of_mem _ (List.mem_cons_of_mem _ (List.mem_cons_of_mem _ (List.mem_cons_of_mem _ (List.mem_cons_of_mem _ (List.mem_cons_of_mem _ List.mem_cons_self)))))))) Tryz.underlying26 rfl (by kernel_rfl)
      · refine ObOp.val (fun s => .bool true) (by kernel_rfl) (fun _ => rfl) (fun s => by kernel_rfl) (fun s D w hd hcl h => ?_)
        go_simp
        try rfl
      · refine ObOp.val (fun s => .bool true) (by kernel_rfl) (fun _ => rfl) (fun s => by kernel_rfl) (fun s D w hd hcl h => ?_)
        go_simp
        try rfl
      · refine ObOp.val (fun s => .bool true) (by kernel_rfl) (fun _ => rfl) (fun s => by kernel_rfl) (fun s D w hd hcl h => ?_)
        go_simp
        try rfl
      · refine ObOp.val (fun s => .pointer (some ⟨NT, 8, none⟩)) (by kernel_rfl) (fun _ => rfl) (fun s => by kernel_rfl) (fun s D w hd hcl h => ?_)
        go_simp
        try rfl
      · refine ObOp.val (fun s => .int .u32 gT.pc) (by kernel_rfl) (fun _ => rfl) (fun s => by kernel_rfl) (fun s D w hd hcl h => ?_)
        have c := (h.k _ (List.mem_cons_of_mem _ (List.mem_cons_of_mem _ (List.mem_cons_of_mem _ (List.mem_cons_of_mem _ (List.mem_cons_of_mem _ List.mem_cons_self)))))).cell (i := 8) (v := .int .u32 gT.pc) rfl
        go_simp
        try rfl
      · refine ObOp.val (fun s => .pointer (some ⟨S, 8, none⟩)) (by kernel_rfl) (fun _ => rfl) (fun s => by kernel_rfl) (fun s D w hd hcl h => ?_)
        go_simp
        try rfl
      · refine ObOp.val (fun s => .int .u32 g.pc) (by kernel_rfl) (fun _ => rfl) (fun s => by kernel_rfl) (fun s D w hd hcl h => ?_)
        have c := (h.k _ (List.mem_cons_of_mem _ (List.mem_cons_of_mem _ (List.mem_cons_of_mem _ (List.mem_cons_of_mem _ (List.mem_cons_of_mem _ (List.mem_cons_of_mem _ List.mem_cons_self))))))).cell (i := 8) (v := .int .u32 g.pc) rfl
        go_simp
        try rfl
      · refine ObOp.val (fun s => .int .u32 ((g.pc + 10) % 4294967296)) (by kernel_rfl) (fun _ => rfl) (fun s => by kernel_rfl) (fun s D w hd hcl h => ?_)
        go_simp
        try rfl
      · refine ObOp.val (fun s => .bool true) (by kernel_rfl) (fun _ => rfl) (fun s => by kernel_rfl) (fun s D w hd hcl h => ?_)
        go_simp
        try exact hP
      · refine ObOp.val (fun s => .bool true) (by kernel_rfl) (fun _ => rfl) (fun s => by kernel_rfl) (fun s D w hd hcl h => ?_)
        go_simp
        try rfl
      · refine ObOp.val (fun s => .bool true) (by kernel_rfl) (fun _ => rfl) (fun s => by kernel_rfl) (fun s D w hd hcl h => ?_)
        go_simp
        try rfl
    go_wp2_with fail
    exact bodyPost_ret (v := .bool true) (by simp [results, Tryz.results10, go_sem]) rfl ⟨rfl, by rw [hS0]; exact h.g.done⟩
end Go.Proofs.YtcdoidnfdkodoaaGreatDoor
