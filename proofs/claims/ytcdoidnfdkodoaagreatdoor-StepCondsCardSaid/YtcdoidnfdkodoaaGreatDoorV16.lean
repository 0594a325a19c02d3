import Derived.Test.YtcdoidnfdkodoaaGreatDoorS47
namespace Go.Proofs.YtcdoidnfdkodoaaGreatDoor
open Go.RowKit
set_option linter.unusedVariables false
set_option linter.unusedSimpArgs false
set_option linter.unusedSectionVars false
set_option maxRecDepth 100000 in
set_option maxHeartbeats 8000000 in
theorem conds_walk (g : Gs) (ok : g.ok) (c v d : Int) (wc : 0 ≤ c ∧ c ≤ 255) (hv : 0 ≤ v ∧ v ≤ 4294967295) (hd : 0 ≤ d ∧ d ≤ 4294967295) (gA gM gE gF : Gs) (D sh ia jf : Int)
    (hD : bits .xor .i64 (c % 16) 1 = D) (hEr : gE.r = (setr g 2 v).r) (hsa : gA.r 0 / 256 = sh) (hss : (setr g 2 v).r 0 / 256 = sh) (hia : bits .and .u32 (gA.r 0) 255 = ia) (hib : ia ≤ 1) (hif : bits .and .u32 (gF.r 0) 255 = jf) (hwr : IntKind.u32.wrap (1 - ia) = jf)
    (hM1 : gM.r 1 = bif (bits .and .u32 (gA.r 0) 255 == 1) then v else (setr g 2 v).r 1) (hpc : gE.pc = bif (bits .and .u32 (gA.r 0) 255 == 1) then (((setr g 2 v).pc + 2) % 4294967296 + d) % 4294967296 else ((setr g 2 v).pc + 2) % 4294967296) (hEf : gE.f = (setr g 2 v).f) (hA : Hid (DoR Mm.new (setr g 2 v) (iSet (c % 16)) gA Mm.new)) (hM : Hid (DoR Mm.new (setr g 2 v) (iCmov (c % 16)) gM Mm.new))
    (hE : Hid (DoR Mm.new (setr g 2 v) (iJcc (c % 16) d) gE Mm.new)) (hF : Hid (DoR Mm.new (setr g 2 v) (iSet D) gF Mm.new)) (w : World) (tabs : Tb w) :
    Calls Tryz.prog 11 #[stV g, .int .u8 c, .int .u32 v, .int .u32 d] w fun e w' => e = .returned (.bool true) ∧ Below w.heap.size w w' := by
  have b0 := (Below.refl w.heap.size w).alloc (Nat.le_refl _) (.cells (stA g) 29)
  have kS := Blk.new w 29 (stA g)
  have hK := Lib.hid (fun W (t : Tb W) => known13 W t)
  have hNew := Lib.hid (fun W => pNew W)
  have T0 := Lib.hid tabs
  have e0 : Int.tmod c 16 = c % 16 := by rw [Int.tmod_eq_emod_of_nonneg wc.1]
  clear tabs
  go_enter Tryz.func11, Tryz.ntmps11
  go_upto_region 1 with fail
  generalize w.alloc (.cells (stA g) 29) = W0 at *
  go_upto_region 3 with (first | ((with_reducible refine (hK.out _ (T0.out.below b0)).mono ?_); rintro e W1 ⟨rfl, b1⟩))
  replace kS := kS.below b1 kS.lt
  replace b1 := b0.trans (b1.mono b0.size)
  go_upto_region 4 with (first | ((with_reducible refine (hNew.out _).mono ?_); rintro e W2 ⟨rfl, p2⟩))
  have nB := Lib.hid (show w.heap.size < W1.heap.size from kS.lt)
  replace kS := kS.below p2.done kS.lt
  replace p2 : Pg w.heap.size w W2 W1.heap.size Mm.new := ⟨p2.h, p2.ok, (But.of b1 _).trans (p2.k.mono b1.size (by simp)), b1.size⟩
  generalize W1.heap.size = B at *
  clear b0 b1
  obtain ⟨hC, hCe⟩ : (0 ≤ c % 16 ∧ c % 16 ≤ 15) ∧ True := ⟨by omega, trivial⟩
  go_upto_region 5 with fail
  generalize c % 16 = C at *
  have c2 := kS.cell (i := 2) (v := .int .u32 (g.r 2)) rfl
  have f2 := kS.fr 2
  have bs := (But.refl [w.heap.size] W2.heap.size W2).setCell (p := ⟨w.heap.size, 2, none⟩) (by simp) (.int .u32 v)
  have p3 : Pg w.heap.size w (W2.setCell ⟨w.heap.size, 2, none⟩ (.int .u32 v)) B Mm.new := ⟨p2.h.but bs p2.h.lt (by have := nB.out; simp; omega), p2.ok, p2.k.trans (bs.mono p2.sz (fun x hx => .inr (by simp at hx; omega))), p2.l⟩
  replace kS := kS.set 2 (.int .u32 v)
  go_upto_region 6 with fail
  rw [setr2] at kS
  clear c2 f2 bs p2
  generalize hg1 : setr g 2 v = g1 at *
  generalize W2.setCell ⟨w.heap.size, 2, none⟩ (.int .u32 v) = Wp at *
  generalize hS0 : w.heap.size = S at *
  clear hK hNew hv ok
  have p := p3
  clear p3
  have kk := Lib.hid (show ∀ x ∈ [(S, 29, stA g1)], Blk Wp x.1 x.2.1 x.2.2 from List.forall_mem_cons.2 ⟨kS, fun x hx => by cases hx⟩)
  have ol := Lib.hid (show ∀ y ∈ [(S, 29, stA g1)], y.1 ∉ [B] from List.forall_mem_cons.2 ⟨by have := nB.out; simp; omega, fun x hx => by cases hx⟩)
  clear kS
  refine wp_region_inv (F := ?_) (fun _ _ => False) (fun _ _ _ _ h => h.elim) [some 36, some 37, some 38, some 39, some 40, some 41, some 35, some 42, some 43, some 44, some 11, some 12, none, none, some 13] [some (mp B), some (stV g1), some (.int .i64 C), some (opV ⟨1, 0, 0, 0, 0, 0⟩), some (inV (iSet C)), some (.tuple #[stV gA, fltV 0 0 0 0, .bool true]), some (.tuple #[stV gA, fltV 0 0 0 0, .bool true]), some (stV gA), some (fltV 0 0 0 0), some (.bool true), none, none, some undef, some undef, some (.bool true)] (RI (fun k W => Pg S w W B (bif k then Mm.new else Mm.new)) B 5 15 [(S, 29, stA g1)] [⟨10, 12, 29, #[.int .u32 0, .int .u32 0, .int .u32 0, .int .u32 0, .int .u32 0, .int .u32 0, .int .u32 0, .int .u32 0, .int .u32 0, .bool false, .bool false, .bool false, .bool false, .bool false, .bool false, .bool false, .int .u64 0], stA gA⟩, ⟨11, 13, 42, #[.int .i64 0, .int .u32 0, .int .u32 0, .int .i64 0], #[.int .i64 0, .int .u32 0, .int .u32 0, .int .i64 0]⟩]) (fun _ => 0) (by kernel_rfl) (by kernel_rfl) (fun s => ?_) (RI.start p.drew (fun x hx => (kk.out x hx).drew) _) ?_ (fun s Wq h => ?_)
  rotate_left
  · simp only [vsOf, putD, Act.put, Nat.reduceAdd, List.setIfInBounds_toArray, List.set_cons_zero, List.set_cons_succ]
    rfl
  · refine AllOps.cons ?_ (AllOps.cons ?_ (AllOps.cons ?_ (AllOps.cons ?_ (AllOps.cons ?_ (AllOps.cons ?_ (AllOps.cons ?_ (AllOps.cons ?_ (AllOps.cons ?_ (AllOps.cons ?_ (AllOps.cons ?_ (AllOps.cons ?_ (AllOps.cons ?_ (AllOps.cons ?_ (AllOps.cons ?_ AllOps.nil))))))))))))))
    · refine ObOp.val (fun s => mp B) (by kernel_rfl) (fun _ => rfl) (fun s => by kernel_rfl) (fun s D w hd hcl h => ?_)
      go_simp
      try rfl
    · refine ObOp.val (fun s => stV g1) (by kernel_rfl) (fun _ => rfl) (fun s => by kernel_rfl) (fun s D w hd hcl h => ?_)
      exact run_load_row (by rfl) (by rfl) 29 _ (0, 0) _ (h.k _ List.mem_cons_self).h Tryz.underlying29 rfl szS
    · refine ObOp.val (fun s => .int .i64 C) (by kernel_rfl) (fun _ => rfl) (fun s => by kernel_rfl) (fun s D w hd hcl h => ?_)
      go_simp
      try rfl
    · refine ObOp.calls (gok13 S w B Mm.new Mm.new) (fun s => opV ⟨1, 0, 0, 0, 0, 0⟩) (35) (fun s => #[.int .i64 0]) (by kernel_rfl) (fun _ => rfl) (fun s => by kernel_rfl) (fun s D w ha h => ?_) (fun s D w hd hcl h => ?_)
      · go_simp
        try rfl
      · exact reg13 0 _
    · refine ObOp.val (fun s => inV (iSet C)) (by kernel_rfl) (fun _ => rfl) (fun s => by kernel_rfl) (fun s D w hd hcl h => ?_)
      go_simp
      exact ⟨rfl, rfl, rfl, rfl, rfl, rfl, rfl, rfl, rfl, rfl, rfl, rfl, rfl, rfl, rfl, rfl⟩
    · refine ObOp.guest (Sx := [B]) (fun k hk => by simp at hk; omega) (fun s => .tuple #[stV gA, fltV 0 0 0 0, .bool true]) (19) (fun s => #[mp B, stV g1, inV (iSet C)]) (by kernel_rfl) ol.out (fun _ => rfl) (fun s => by kernel_rfl) (fun s D w ha h => ?_) (fun s w hg => ?_)
      · go_simp
        try rfl
      · exact hA.out.pg T0.out hS0 new_okM hg
    · refine ObOp.val (fun s => .tuple #[stV gA, fltV 0 0 0 0, .bool true]) (by kernel_rfl) (fun _ => rfl) (fun s => by kernel_rfl) (fun s D w hd hcl h => ?_)
      go_simp
      try rfl
    · refine ObOp.val (fun s => stV gA) (by kernel_rfl) (fun _ => rfl) (fun s => by kernel_rfl) (fun s D w hd hcl h => ?_)
      go_simp
      try rfl
    · refine ObOp.val (fun s => fltV 0 0 0 0) (by kernel_rfl) (fun _ => rfl) (fun s => by kernel_rfl) (fun s D w hd hcl h => ?_)
      go_simp
      try rfl
    · refine ObOp.val (fun s => .bool true) (by kernel_rfl) (fun _ => rfl) (fun s => by kernel_rfl) (fun s D w hd hcl h => ?_)
      go_simp
      try rfl
    · refine ObOp.alloc (gok13 S w B Mm.new Mm.new) (x := ⟨10, 12, 29, #[.int .u32 0, .int .u32 0, .int .u32 0, .int .u32 0, .int .u32 0, .int .u32 0, .int .u32 0, .int .u32 0, .int .u32 0, .bool false, .bool false, .bool false, .bool false, .bool false, .bool false, .bool false, .int .u64 0], stA gA⟩) List.mem_cons_self (by kernel_rfl) (fun _ => rfl) rfl (fun s => by kernel_rfl) (fun s w => ?_)
      go_simp
      try rfl
    · refine ObOp.alloc (gok13 S w B Mm.new Mm.new) (x := ⟨11, 13, 42, #[.int .i64 0, .int .u32 0, .int .u32 0, .int .i64 0], #[.int .i64 0, .int .u32 0, .int .u32 0, .int .i64 0]⟩) (List.mem_cons_of_mem _ List.mem_cons_self) (by kernel_rfl) (fun _ => rfl) rfl (fun s => by kernel_rfl) (fun s w => ?_)
      go_simp
      try rfl
    · refine ObOp.stores (gok13 S w B Mm.new Mm.new) (x := ⟨10, 12, 29, #[.int .u32 0, .int .u32 0, .int .u32 0, .int .u32 0, .int .u32 0, .int .u32 0, .int .u32 0, .int .u32 0, .int .u32 0, .bool false, .bool false, .bool false, .bool false, .bool false, .bool false, .bool false, .int .u64 0], stA gA⟩) List.mem_cons_self (by kernel_rfl) (fun s => by kernel_rfl) rfl (by kernel_rfl) (fun s D w K hD hb hk => ?_)
      exact wp_store_row _ _ _ rfl (s 10) (stA gA) rfl rfl (29) (#[.int .u32 0, .int .u32 0, .int .u32 0, .int .u32 0, .int .u32 0, .int .u32 0, .int .u32 0, .int .u32 0, .int .u32 0, .bool false, .bool false, .bool false, .bool false, .bool false, .bool false, .bool false, .int .u64 0]) hb.h (by kernel_rfl) (by kernel_rfl) (by first | exact stA_all _ | simp [Value.oneCell']) hk
    · refine ObOp.stores (gok13 S w B Mm.new Mm.new) (x := ⟨11, 13, 42, #[.int .i64 0, .int .u32 0, .int .u32 0, .int .i64 0], #[.int .i64 0, .int .u32 0, .int .u32 0, .int .i64 0]⟩) (List.mem_cons_of_mem _ List.mem_cons_self) (by kernel_rfl) (fun s => by kernel_rfl) rfl (by kernel_rfl) (fun s D w K hD hb hk => ?_)
      exact wp_store_row _ _ _ rfl (s 11) (#[.int .i64 0, .int .u32 0, .int .u32 0, .int .i64 0]) rfl rfl (42) (#[.int .i64 0, .int .u32 0, .int .u32 0, .int .i64 0]) hb.h (by kernel_rfl) (by kernel_rfl) (by first | exact stA_all _ | simp [Value.oneCell']) hk
    · refine ObOp.val (fun s => .bool true) (by kernel_rfl) (fun _ => rfl) (fun s => by kernel_rfl) (fun s D w hd hcl h => ?_)
      go_simp
      try rfl
  have z := h.box (x := ⟨10, 12, 29, #[.int .u32 0, .int .u32 0, .int .u32 0, .int .u32 0, .int .u32 0, .int .u32 0, .int .u32 0, .int .u32 0, .int .u32 0, .bool false, .bool false, .bool false, .bool false, .bool false, .bool false, .bool false, .int .u64 0], stA gA⟩) List.mem_cons_self rfl
  replace kk := Lib.hid (show ∀ x ∈ (s 10, 29, stA gA) :: [(S, 29, stA g1)], Blk Wq x.1 x.2.1 x.2.2 from List.forall_mem_cons.2 ⟨z.1, h.k⟩)
  replace ol := Lib.hid (show ∀ y ∈ (s 10, 29, stA gA) :: [(S, 29, stA g1)], y.1 ∉ [B] from List.forall_mem_cons.2 ⟨by have z2 : B < s 10 := z.2.1; simp; omega, ol.out⟩)
  replace p : Pg S w Wq B Mm.new := h.g
  clear h z
  generalize s 10 = NA at *
  generalize s 11 = XA at *
  clear s Wp
  generalize Wq = Wp at *
  go_upto_region 7 with fail
  refine wp_region_inv (F := ?_) (fun _ _ => False) (fun _ _ _ _ h => h.elim) [some 46, some 47, some 48, some 49, some 50, some 51, some 52, some 45, some 53, some 54, some 55, some 14, some 15, none, none, some 16] [some (mp B), some (stV g1), some (.int .i64 C), some (opV ⟨1, 1, 0, 0, 0, 0⟩), some (opV ⟨1, 2, 0, 0, 0, 0⟩), some (inV (iCmov C)), some (.tuple #[stV gM, fltV 0 0 0 0, .bool true]), some (.tuple #[stV gM, fltV 0 0 0 0, .bool true]), some (stV gM), some (fltV 0 0 0 0), some (.bool true), none, none, some undef, some undef, some (.bool true)] (RI (fun k W => Pg S w W B (bif k then Mm.new else Mm.new)) B 6 16 [(NA, 29, stA gA), (S, 29, stA g1)] [⟨11, 13, 29, #[.int .u32 0, .int .u32 0, .int .u32 0, .int .u32 0, .int .u32 0, .int .u32 0, .int .u32 0, .int .u32 0, .int .u32 0, .bool false, .bool false, .bool false, .bool false, .bool false, .bool false, .bool false, .int .u64 0], stA gM⟩, ⟨12, 14, 42, #[.int .i64 0, .int .u32 0, .int .u32 0, .int .i64 0], #[.int .i64 0, .int .u32 0, .int .u32 0, .int .i64 0]⟩]) (fun _ => 0) (by kernel_rfl) (by kernel_rfl) (fun s => ?_) (RI.start p.drew (fun x hx => (kk.out x hx).drew) _) ?_ (fun s Wq h => ?_)
  rotate_left
  · simp only [vsOf, putD, Act.put, Nat.reduceAdd, List.setIfInBounds_toArray, List.set_cons_zero, List.set_cons_succ]
    rfl
  · refine AllOps.cons ?_ (AllOps.cons ?_ (AllOps.cons ?_ (AllOps.cons ?_ (AllOps.cons ?_ (AllOps.cons ?_ (AllOps.cons ?_ (AllOps.cons ?_ (AllOps.cons ?_ (AllOps.cons ?_ (AllOps.cons ?_ (AllOps.cons ?_ (AllOps.cons ?_ (AllOps.cons ?_ (AllOps.cons ?_ (AllOps.cons ?_ AllOps.nil)))))))))))))))
    · refine ObOp.val (fun s => mp B) (by kernel_rfl) (fun _ => rfl) (fun s => by kernel_rfl) (fun s D w hd hcl h => ?_)
      go_simp
      try rfl
    · refine ObOp.val (fun s => stV g1) (by kernel_rfl) (fun _ => rfl) (fun s => by kernel_rfl) (fun s D w hd hcl h => ?_)
      exact run_load_row (by rfl) (by rfl) 29 _ (0, 0) _ (h.k _ (List.mem_cons_of_mem _ List.mem_cons_self)).h Tryz.underlying29 rfl szS
    · refine ObOp.val (fun s => .int .i64 C) (by kernel_rfl) (fun _ => rfl) (fun s => by kernel_rfl) (fun s D w hd hcl h => ?_)
      go_simp
      try rfl
    · refine ObOp.calls (gok13 S w B Mm.new Mm.new) (fun s => opV ⟨1, 1, 0, 0, 0, 0⟩) (35) (fun s => #[.int .i64 1]) (by kernel_rfl) (fun _ => rfl) (fun s => by kernel_rfl) (fun s D w ha h => ?_) (fun s D w hd hcl h => ?_)
      · go_simp
        try rfl
      · exact reg13 1 _
    · refine ObOp.calls (gok13 S w B Mm.new Mm.new) (fun s => opV ⟨1, 2, 0, 0, 0, 0⟩) (35) (fun s => #[.int .i64 2]) (by kernel_rfl) (fun _ => rfl) (fun s => by kernel_rfl) (fun s D w ha h => ?_) (fun s D w hd hcl h => ?_)
      · go_simp
        try rfl
      · exact reg13 2 _
    · refine ObOp.val (fun s => inV (iCmov C)) (by kernel_rfl) (fun _ => rfl) (fun s => by kernel_rfl) (fun s D w hd hcl h => ?_)
      go_simp
      exact ⟨rfl, rfl, rfl, rfl, rfl, rfl, rfl, rfl, rfl, rfl, rfl, rfl, rfl, rfl, rfl, rfl⟩
    · refine ObOp.guest (Sx := [B]) (fun k hk => by simp at hk; omega) (fun s => .tuple #[stV gM, fltV 0 0 0 0, .bool true]) (19) (fun s => #[mp B, stV g1, inV (iCmov C)]) (by kernel_rfl) ol.out (fun _ => rfl) (fun s => by kernel_rfl) (fun s D w ha h => ?_) (fun s w hg => ?_)
      · go_simp
        try rfl
      · exact hM.out.pg T0.out hS0 new_okM hg
    · refine ObOp.val (fun s => .tuple #[stV gM, fltV 0 0 0 0, .bool true]) (by kernel_rfl) (fun _ => rfl) (fun s => by kernel_rfl) (fun s D w hd hcl h => ?_)
      go_simp
      try rfl
    · refine ObOp.val (fun s => stV gM) (by kernel_rfl) (fun _ => rfl) (fun s => by kernel_rfl) (fun s D w hd hcl h => ?_)
      go_simp
      try rfl
    · refine ObOp.val (fun s => fltV 0 0 0 0) (by kernel_rfl) (fun _ => rfl) (fun s => by kernel_rfl) (fun s D w hd hcl h => ?_)
      go_simp
      try rfl
    · refine ObOp.val (fun s => .bool true) (by kernel_rfl) (fun _ => rfl) (fun s => by kernel_rfl) (fun s D w hd hcl h => ?_)
      go_simp
      try rfl
    · refine ObOp.alloc (gok13 S w B Mm.new Mm.new) (x := ⟨11, 13, 29, #[.int .u32 0, .int .u32 0, .int .u32 0, .int .u32 0, .int .u32 0, .int .u32 0, .int .u32 0, .int .u32 0, .int .u32 0, .bool false, .bool false, .bool false, .bool false, .bool false, .bool false, .bool false, .int .u64 0], stA gM⟩) List.mem_cons_self (by kernel_rfl) (fun _ => rfl) rfl (fun s => by kernel_rfl) (fun s w => ?_)
      go_simp
      try rfl
    · refine ObOp.alloc (gok13 S w B Mm.new Mm.new) (x := ⟨12, 14, 42, #[.int .i64 0, .int .u32 0, .int .u32 0, .int .i64 0], #[.int .i64 0, .int .u32 0, .int .u32 0, .int .i64 0]⟩) (List.mem_cons_of_mem _ List.mem_cons_self) (by kernel_rfl) (fun _ => rfl) rfl (fun s => by kernel_rfl) (fun s w => ?_)
      go_simp
      try rfl
    · refine ObOp.stores (gok13 S w B Mm.new Mm.new) (x := ⟨11, 13, 29, #[.int .u32 0, .int .u32 0, .int .u32 0, .int .u32 0, .int .u32 0, .int .u32 0, .int .u32 0, .int .u32 0, .int .u32 0, .bool false, .bool false, .bool false, .bool false, .bool false, .bool false, .bool false, .int .u64 0], stA gM⟩) List.mem_cons_self (by kernel_rfl) (fun s => by kernel_rfl) rfl (by kernel_rfl) (fun s D w K hD hb hk => ?_)
      exact wp_store_row _ _ _ rfl (s 11) (stA gM) rfl rfl (29) (#[.int .u32 0, .int .u32 0, .int .u32 0, .int .u32 0, .int .u32 0, .int .u32 0, .int .u32 0, .int .u32 0, .int .u32 0, .bool false, .bool false, .bool false, .bool false, .bool false, .bool false, .bool false, .int .u64 0]) hb.h (by kernel_rfl) (by kernel_rfl) (by first | exact stA_all _ | simp [Value.oneCell']) hk
    · refine ObOp.stores (gok13 S w B Mm.new Mm.new) (x := ⟨12, 14, 42, #[.int .i64 0, .int .u32 0, .int .u32 0, .int .i64 0], #[.int .i64 0, .int .u32 0, .int .u32 0, .int .i64 0]⟩) (List.mem_cons_of_mem _ List.mem_cons_self) (by kernel_rfl) (fun s => by kernel_rfl) rfl (by kernel_rfl) (fun s D w K hD hb hk => ?_)
      exact wp_store_row _ _ _ rfl (s 12) (#[.int .i64 0, .int .u32 0, .int .u32 0, .int .i64 0]) rfl rfl (42) (#[.int .i64 0, .int .u32 0, .int .u32 0, .int .i64 0]) hb.h (by kernel_rfl) (by kernel_rfl) (by first | exact stA_all _ | simp [Value.oneCell']) hk
    · refine ObOp.val (fun s => .bool true) (by kernel_rfl) (fun _ => rfl) (fun s => by kernel_rfl) (fun s D w hd hcl h => ?_)
      go_simp
      try rfl
  have z := h.box (x := ⟨11, 13, 29, #[.int .u32 0, .int .u32 0, .int .u32 0, .int .u32 0, .int .u32 0, .int .u32 0, .int .u32 0, .int .u32 0, .int .u32 0, .bool false, .bool false, .bool false, .bool false, .bool false, .bool false, .bool false, .int .u64 0], stA gM⟩) List.mem_cons_self rfl
  replace kk := Lib.hid (show ∀ x ∈ (s 11, 29, stA gM) :: [(NA, 29, stA gA), (S, 29, stA g1)], Blk Wq x.1 x.2.1 x.2.2 from List.forall_mem_cons.2 ⟨z.1, h.k⟩)
  replace ol := Lib.hid (show ∀ y ∈ (s 11, 29, stA gM) :: [(NA, 29, stA gA), (S, 29, stA g1)], y.1 ∉ [B] from List.forall_mem_cons.2 ⟨by have z2 : B < s 11 := z.2.1; simp; omega, ol.out⟩)
  replace p : Pg S w Wq B Mm.new := h.g
  clear h z
  generalize s 11 = NM at *
  generalize s 12 = XM at *
  clear s Wp
  generalize Wq = Wp at *
  go_upto_region 8 with fail
  refine wp_region_inv (F := ?_) (fun _ _ => False) (fun _ _ _ _ h => h.elim) [some 57, some 58, some 59, some 60, some 61, some 62, some 63, some 56, some 64, some 65, some 66, some 17, some 18, none, none, some 19] [some (mp B), some (stV g1), some (.int .i64 C), some (.int .u32 d), some (opV ⟨2, 0, d, 0, 0, 0⟩), some (inV (iJcc C d)), some (.tuple #[stV gE, fltV 0 0 0 0, .bool true]), some (.tuple #[stV gE, fltV 0 0 0 0, .bool true]), some (stV gE), some (fltV 0 0 0 0), some (.bool true), none, none, some undef, some undef, some (.bool true)] (RI (fun k W => Pg S w W B (bif k then Mm.new else Mm.new)) B 6 16 [(NM, 29, stA gM), (NA, 29, stA gA), (S, 29, stA g1)] [⟨11, 13, 29, #[.int .u32 0, .int .u32 0, .int .u32 0, .int .u32 0, .int .u32 0, .int .u32 0, .int .u32 0, .int .u32 0, .int .u32 0, .bool false, .bool false, .bool false, .bool false, .bool false, .bool false, .bool false, .int .u64 0], stA gE⟩, ⟨12, 14, 42, #[.int .i64 0, .int .u32 0, .int .u32 0, .int .i64 0], #[.int .i64 0, .int .u32 0, .int .u32 0, .int .i64 0]⟩]) (fun _ => 0) (by kernel_rfl) (by kernel_rfl) (fun s => ?_) (RI.start p.drew (fun x hx => (kk.out x hx).drew) _) ?_ (fun s Wq h => ?_)
  rotate_left
  · simp only [vsOf, putD, Act.put, Nat.reduceAdd, List.setIfInBounds_toArray, List.set_cons_zero, List.set_cons_succ]
    rfl
  · refine AllOps.cons ?_ (AllOps.cons ?_ (AllOps.cons ?_ (AllOps.cons ?_ (AllOps.cons ?_ (AllOps.cons ?_ (AllOps.cons ?_ (AllOps.cons ?_ (AllOps.cons ?_ (AllOps.cons ?_ (AllOps.cons ?_ (AllOps.cons ?_ (AllOps.cons ?_ (AllOps.cons ?_ (AllOps.cons ?_ (AllOps.cons ?_ AllOps.nil)))))))))))))))
    · refine ObOp.val (fun s => mp B) (by kernel_rfl) (fun _ => rfl) (fun s => by kernel_rfl) (fun s D w hd hcl h => ?_)
      go_simp
      try rfl
    · refine ObOp.val (fun s => stV g1) (by kernel_rfl) (fun _ => rfl) (fun s => by kernel_rfl) (fun s D w hd hcl h => ?_)
      exact run_load_row (by rfl) (by rfl) 29 _ (0, 0) _ (h.k _ (List.mem_cons_of_mem _ (List.mem_cons_of_mem _ List.mem_cons_self))).h Tryz.underlying29 rfl szS
    · refine ObOp.val (fun s => .int .i64 C) (by kernel_rfl) (fun _ => rfl) (fun s => by kernel_rfl) (fun s D w hd hcl h => ?_)
      go_simp
      try rfl
    · refine ObOp.val (fun s => .int .u32 d) (by kernel_rfl) (fun _ => rfl) (fun s => by kernel_rfl) (fun s D w hd hcl h => ?_)
      go_simp
      try rfl
    · refine ObOp.calls (gok13 S w B Mm.new Mm.new) (fun s => opV ⟨2, 0, d, 0, 0, 0⟩) (34) (fun s => #[.int .u32 d]) (by kernel_rfl) (fun _ => rfl) (fun s => by kernel_rfl) (fun s D w ha h => ?_) (fun s D w hd hcl h => ?_)
      · go_simp
        try rfl
      · exact imm13 d _
    · refine ObOp.val (fun s => inV (iJcc C d)) (by kernel_rfl) (fun _ => rfl) (fun s => by kernel_rfl) (fun s D w hd hcl h => ?_)
      go_simp
      exact ⟨rfl, rfl, rfl, rfl, rfl, rfl, rfl, rfl, rfl, rfl, rfl, rfl, rfl, rfl, rfl, rfl⟩
    · refine ObOp.guest (Sx := [B]) (fun k hk => by simp at hk; omega) (fun s => .tuple #[stV gE, fltV 0 0 0 0, .bool true]) (19) (fun s => #[mp B, stV g1, inV (iJcc C d)]) (by kernel_rfl) ol.out (fun _ => rfl) (fun s => by kernel_rfl) (fun s D w ha h => ?_) (fun s w hg => ?_)
      · go_simp
        try rfl
      · exact hE.out.pg T0.out hS0 new_okM hg
    · refine ObOp.val (fun s => .tuple #[stV gE, fltV 0 0 0 0, .bool true]) (by kernel_rfl) (fun _ => rfl) (fun s => by kernel_rfl) (fun s D w hd hcl h => ?_)
      go_simp
      try rfl
    · refine ObOp.val (fun s => stV gE) (by kernel_rfl) (fun _ => rfl) (fun s => by kernel_rfl) (fun s D w hd hcl h => ?_)
      go_simp
      try rfl
    · refine ObOp.val (fun s => fltV 0 0 0 0) (by kernel_rfl) (fun _ => rfl) (fun s => by kernel_rfl) (fun s D w hd hcl h => ?_)
      go_simp
      try rfl
    · refine ObOp.val (fun s => .bool true) (by kernel_rfl) (fun _ => rfl) (fun s => by kernel_rfl) (fun s D w hd hcl h => ?_)
      go_simp
      try rfl
    · refine ObOp.alloc (gok13 S w B Mm.new Mm.new) (x := ⟨11, 13, 29, #[.int .u32 0, .int .u32 0, .int .u32 0, .int .u32 0, .int .u32 0, .int .u32 0, .int .u32 0, .int .u32 0, .int .u32 0, .bool false, .bool false, .bool false, .bool false, .bool false, .bool false, .bool false, .int .u64 0], stA gE⟩) List.mem_cons_self (by kernel_rfl) (fun _ => rfl) rfl (fun s => by kernel_rfl) (fun s w => ?_)
      go_simp
      try rfl
    · refine ObOp.alloc (gok13 S w B Mm.new Mm.new) (x := ⟨12, 14, 42, #[.int .i64 0, .int .u32 0, .int .u32 0, .int .i64 0], #[.int .i64 0, .int .u32 0, .int .u32 0, .int .i64 0]⟩) (List.mem_cons_of_mem _ List.mem_cons_self) (by kernel_rfl) (fun _ => rfl) rfl (fun s => by kernel_rfl) (fun s w => ?_)
      go_simp
      try rfl
    · refine ObOp.stores (gok13 S w B Mm.new Mm.new) (x := ⟨11, 13, 29, #[.int .u32 0, .int .u32 0, .int .u32 0, .int .u32 0, .int .u32 0, .int .u32 0, .int .u32 0, .int .u32 0, .int .u32 0, .bool false, .bool false, .bool false, .bool false, .bool false, .bool false, .bool false, .int .u64 0], stA gE⟩) List.mem_cons_self (by kernel_rfl) (fun s => by kernel_rfl) rfl (by kernel_rfl) (fun s D w K hD hb hk => ?_)
      exact wp_store_row _ _ _ rfl (s 11) (stA gE) rfl rfl (29) (#[.int .u32 0, .int .u32 0, .int .u32 0, .int .u32 0, .int .u32 0, .int .u32 0, .int .u32 0, .int .u32 0, .int .u32 0, .bool false, .bool false, .bool false, .bool false, .bool false, .bool false, .bool false, .int .u64 0]) hb.h (by kernel_rfl) (by kernel_rfl) (by first | exact stA_all _ | simp [Value.oneCell']) hk
    · refine ObOp.stores (gok13 S w B Mm.new Mm.new) (x := ⟨12, 14, 42, #[.int .i64 0, .int .u32 0, .int .u32 0, .int .i64 0], #[.int .i64 0, .int .u32 0, .int .u32 0, .int .i64 0]⟩) (List.mem_cons_of_mem _ List.mem_cons_self) (by kernel_rfl) (fun s => by kernel_rfl) rfl (by kernel_rfl) (fun s D w K hD hb hk => ?_)
      exact wp_store_row _ _ _ rfl (s 12) (#[.int .i64 0, .int .u32 0, .int .u32 0, .int .i64 0]) rfl rfl (42) (#[.int .i64 0, .int .u32 0, .int .u32 0, .int .i64 0]) hb.h (by kernel_rfl) (by kernel_rfl) (by first | exact stA_all _ | simp [Value.oneCell']) hk
    · refine ObOp.val (fun s => .bool true) (by kernel_rfl) (fun _ => rfl) (fun s => by kernel_rfl) (fun s D w hd hcl h => ?_)
      go_simp
      try rfl
  have z := h.box (x := ⟨11, 13, 29, #[.int .u32 0, .int .u32 0, .int .u32 0, .int .u32 0, .int .u32 0, .int .u32 0, .int .u32 0, .int .u32 0, .int .u32 0, .bool false, .bool false, .bool false, .bool false, .bool false, .bool false, .bool false, .int .u64 0], stA gE⟩) List.mem_cons_self rfl
  replace kk := Lib.hid (show ∀ x ∈ (s 11, 29, stA gE) :: [(NM, 29, stA gM), (NA, 29, stA gA), (S, 29, stA g1)], Blk Wq x.1 x.2.1 x.2.2 from List.forall_mem_cons.2 ⟨z.1, h.k⟩)
  replace ol := Lib.hid (show ∀ y ∈ (s 11, 29, stA gE) :: [(NM, 29, stA gM), (NA, 29, stA gA), (S, 29, stA g1)], y.1 ∉ [B] from List.forall_mem_cons.2 ⟨by have z2 : B < s 11 := z.2.1; simp; omega, ol.out⟩)
  replace p : Pg S w Wq B Mm.new := h.g
  clear h z
  generalize s 11 = NE at *
  generalize s 12 = XE at *
  clear s Wp
  generalize Wq = Wp at *
  go_upto_region 9 with fail
  refine wp_region_inv (F := ?_) (fun _ _ => False) (fun _ _ _ _ h => h.elim) [some 68, some 69, some 70, some 71, some 72, some 73, some 74, some 67, some 75, some 76, some 77, some 20, some 21, none, none, some 22] [some (mp B), some (stV g1), some (.int .i64 C), some (.int .i64 D), some (opV ⟨1, 0, 0, 0, 0, 0⟩), some (inV (iSet D)), some (.tuple #[stV gF, fltV 0 0 0 0, .bool true]), some (.tuple #[stV gF, fltV 0 0 0 0, .bool true]), some (stV gF), some (fltV 0 0 0 0), some (.bool true), none, none, some undef, some undef, some (.bool true)] (RI (fun k W => Pg S w W B (bif k then Mm.new else Mm.new)) B 6 16 [(NE, 29, stA gE), (NM, 29, stA gM), (NA, 29, stA gA), (S, 29, stA g1)] [⟨11, 13, 29, #[.int .u32 0, .int .u32 0, .int .u32 0, .int .u32 0, .int .u32 0, .int .u32 0, .int .u32 0, .int .u32 0, .int .u32 0, .bool false, .bool false, .bool false, .bool false, .bool false, .bool false, .bool false, .int .u64 0], stA gF⟩, ⟨12, 14, 42, #[.int .i64 0, .int .u32 0, .int .u32 0, .int .i64 0], #[.int .i64 0, .int .u32 0, .int .u32 0, .int .i64 0]⟩]) (fun _ => 0) (by kernel_rfl) (by kernel_rfl) (fun s => ?_) (RI.start p.drew (fun x hx => (kk.out x hx).drew) _) ?_ (fun s Wq h => ?_)
  rotate_left
  · simp only [vsOf, putD, Act.put, Nat.reduceAdd, List.setIfInBounds_toArray, List.set_cons_zero, List.set_cons_succ]
    rfl
  · refine AllOps.cons ?_ (AllOps.cons ?_ (AllOps.cons ?_ (AllOps.cons ?_ (AllOps.cons ?_ (AllOps.cons ?_ (AllOps.cons ?_ (AllOps.cons ?_ (AllOps.cons ?_ (AllOps.cons ?_ (AllOps.cons ?_ (AllOps.cons ?_ (AllOps.cons ?_ (AllOps.cons ?_ (AllOps.cons ?_ (AllOps.cons ?_ AllOps.nil)))))))))))))))
    · refine ObOp.val (fun s => mp B) (by kernel_rfl) (fun _ => rfl) (fun s => by kernel_rfl) (fun s D w hd hcl h => ?_)
      go_simp
      try rfl
    · refine ObOp.val (fun s => stV g1) (by kernel_rfl) (fun _ => rfl) (fun s => by kernel_rfl) (fun s D w hd hcl h => ?_)
      exact run_load_row (by rfl) (by rfl) 29 _ (0, 0) _ (h.k _ (List.mem_cons_of_mem _ (List.mem_cons_of_mem _ (List.mem_cons_of_mem _ List.mem_cons_self)))).h Tryz.underlying29 rfl szS
    · refine ObOp.val (fun s => .int .i64 C) (by kernel_rfl) (fun _ => rfl) (fun s => by kernel_rfl) (fun s D w hd hcl h => ?_)
      go_simp
      try rfl
    · refine ObOp.val (fun s => .int .i64 D) (by kernel_rfl) (fun _ => rfl) (fun s => by kernel_rfl) (fun s D w hd hcl h => ?_)
      go_simp
      try exact hD
    · refine ObOp.calls (gok13 S w B Mm.new Mm.new) (fun s => opV ⟨1, 0, 0, 0, 0, 0⟩) (35) (fun s => #[.int .i64 0]) (by kernel_rfl) (fun _ => rfl) (fun s => by kernel_rfl) (fun s D w ha h => ?_) (fun s D w hd hcl h => ?_)
      · go_simp
        try rfl
      · exact reg13 0 _
    · refine ObOp.val (fun s => inV (iSet D)) (by kernel_rfl) (fun _ => rfl) (fun s => by kernel_rfl) (fun s D w hd hcl h => ?_)
      go_simp
      exact ⟨rfl, rfl, rfl, rfl, rfl, rfl, rfl, rfl, rfl, rfl, rfl, rfl, rfl, rfl, rfl, rfl⟩
    · refine ObOp.guest (Sx := [B]) (fun k hk => by simp at hk; omega) (fun s => .tuple #[stV gF, fltV 0 0 0 0, .bool true]) (19) (fun s => #[mp B, stV g1, inV (iSet D)]) (by kernel_rfl) ol.out (fun _ => rfl) (fun s => by kernel_rfl) (fun s D w ha h => ?_) (fun s w hg => ?_)
      · go_simp
        try rfl
      · exact hF.out.pg T0.out hS0 new_okM hg
    · refine ObOp.val (fun s => .tuple #[stV gF, fltV 0 0 0 0, .bool true]) (by kernel_rfl) (fun _ => rfl) (fun s => by kernel_rfl) (fun s D w hd hcl h => ?_)
      go_simp
      try rfl
    · refine ObOp.val (fun s => stV gF) (by kernel_rfl) (fun _ => rfl) (fun s => by kernel_rfl) (fun s D w hd hcl h => ?_)
      go_simp
      try rfl
    · refine ObOp.val (fun s => fltV 0 0 0 0) (by kernel_rfl) (fun _ => rfl) (fun s => by kernel_rfl) (fun s D w hd hcl h => ?_)
      go_simp
      try rfl
    · refine ObOp.val (fun s => .bool true) (by kernel_rfl) (fun _ => rfl) (fun s => by kernel_rfl) (fun s D w hd hcl h => ?_)
      go_simp
      try rfl
    · refine ObOp.alloc (gok13 S w B Mm.new Mm.new) (x := ⟨11, 13, 29, #[.int .u32 0, .int .u32 0, .int .u32 0, .int .u32 0, .int .u32 0, .int .u32 0, .int .u32 0, .int .u32 0, .int .u32 0, .bool false, .bool false, .bool false, .bool false, .bool false, .bool false, .bool false, .int .u64 0], stA gF⟩) List.mem_cons_self (by kernel_rfl) (fun _ => rfl) rfl (fun s => by kernel_rfl) (fun s w => ?_)
      go_simp
      try rfl
    · refine ObOp.alloc (gok13 S w B Mm.new Mm.new) (x := ⟨12, 14, 42, #[.int .i64 0, .int .u32 0, .int .u32 0, .int .i64 0], #[.int .i64 0, .int .u32 0, .int .u32 0, .int .i64 0]⟩) (List.mem_cons_of_mem _ List.mem_cons_self) (by kernel_rfl) (fun _ => rfl) rfl (fun s => by kernel_rfl) (fun s w => ?_)
      go_simp
      try rfl
    · refine ObOp.stores (gok13 S w B Mm.new Mm.new) (x := ⟨11, 13, 29, #[.int .u32 0, .int .u32 0, .int .u32 0, .int .u32 0, .int .u32 0, .int .u32 0, .int .u32 0, .int .u32 0, .int .u32 0, .bool false, .bool false, .bool false, .bool false, .bool false, .bool false, .bool false, .int .u64 0], stA gF⟩) List.mem_cons_self (by kernel_rfl) (fun s => by kernel_rfl) rfl (by kernel_rfl) (fun s D w K hD hb hk => ?_)
      exact wp_store_row _ _ _ rfl (s 11) (stA gF) rfl rfl (29) (#[.int .u32 0, .int .u32 0, .int .u32 0, .int .u32 0, .int .u32 0, .int .u32 0, .int .u32 0, .int .u32 0, .int .u32 0, .bool false, .bool false, .bool false, .bool false, .bool false, .bool false, .bool false, .int .u64 0]) hb.h (by kernel_rfl) (by kernel_rfl) (by first | exact stA_all _ | simp [Value.oneCell']) hk
    · refine ObOp.stores (gok13 S w B Mm.new Mm.new) (x := ⟨12, 14, 42, #[.int .i64 0, .int .u32 0, .int .u32 0, .int .i64 0], #[.int .i64 0, .int .u32 0, .int .u32 0, .int .i64 0]⟩) (List.mem_cons_of_mem _ List.mem_cons_self) (by kernel_rfl) (fun s => by kernel_rfl) rfl (by kernel_rfl) (fun s D w K hD hb hk => ?_)
      exact wp_store_row _ _ _ rfl (s 12) (#[.int .i64 0, .int .u32 0, .int .u32 0, .int .i64 0]) rfl rfl (42) (#[.int .i64 0, .int .u32 0, .int .u32 0, .int .i64 0]) hb.h (by kernel_rfl) (by kernel_rfl) (by first | exact stA_all _ | simp [Value.oneCell']) hk
    · refine ObOp.val (fun s => .bool true) (by kernel_rfl) (fun _ => rfl) (fun s => by kernel_rfl) (fun s D w hd hcl h => ?_)
      go_simp
      try rfl
  have z := h.box (x := ⟨11, 13, 29, #[.int .u32 0, .int .u32 0, .int .u32 0, .int .u32 0, .int .u32 0, .int .u32 0, .int .u32 0, .int .u32 0, .int .u32 0, .bool false, .bool false, .bool false, .bool false, .bool false, .bool false, .bool false, .int .u64 0], stA gF⟩) List.mem_cons_self rfl
  replace kk := Lib.hid (show ∀ x ∈ (s 11, 29, stA gF) :: [(NE, 29, stA gE), (NM, 29, stA gM), (NA, 29, stA gA), (S, 29, stA g1)], Blk Wq x.1 x.2.1 x.2.2 from List.forall_mem_cons.2 ⟨z.1, h.k⟩)
  replace ol := Lib.hid (show ∀ y ∈ (s 11, 29, stA gF) :: [(NE, 29, stA gE), (NM, 29, stA gM), (NA, 29, stA gA), (S, 29, stA g1)], y.1 ∉ [B] from List.forall_mem_cons.2 ⟨by have z2 : B < s 11 := z.2.1; simp; omega, ol.out⟩)
  replace p : Pg S w Wq B Mm.new := h.g
  clear h z
  generalize s 11 = NF at *
  generalize s 12 = XF at *
  clear s Wp
  generalize Wq = Wp at *
  have cA := (kk.out _ (List.mem_cons_of_mem _ (List.mem_cons_of_mem _ (List.mem_cons_of_mem _ List.mem_cons_self)))).cell (i := 0) (v := .int .u32 (gA.r 0)) rfl
  have s1 := (kk.out _ (List.mem_cons_of_mem _ (List.mem_cons_of_mem _ (List.mem_cons_of_mem _ (List.mem_cons_of_mem _ List.mem_cons_self))))).cell (i := 1) (v := .int .u32 (g1.r 1)) rfl
  have s8 := (kk.out _ (List.mem_cons_of_mem _ (List.mem_cons_of_mem _ (List.mem_cons_of_mem _ (List.mem_cons_of_mem _ List.mem_cons_self))))).cell (i := 8) (v := .int .u32 g1.pc) rfl
  go_upto_region 13 with fail
  generalize hy : (bits BinOp.and IntKind.u32 (gA.r 0) 255 == 1) = y at *
  clear cA s1 s8 hA hM hE hF T0 nB ol
  cases y
  · replace hM1 : gM.r 1 = g1.r 1 := hM1
    replace hpc : gE.pc = (g1.pc + 2) % 4294967296 := hpc
    go_upto_region 15 with fail
    refine wp_region_seq (F := ?_) (fun _ _ => False) (fun _ _ _ _ h => h.elim) [some 94, some 95, some 96, some 97, some 98, some 99, some 100, some 101, some 102, some 103, some 104, some 105, some 106, some 107, some 108, some 109, some 110, some 111, some 112, some 113, some 114, some 115, some 116, some 117, some 118, some 119, some 120, some 121, some 122, some 123, some 124, some 125, some 126, some 127, some 128, some 129, some 130, some 131, some 132, some 133, some 134, some 135, some 136, some 137, some 138, some 139, some 140, some 141, some 142, some 143, some 144, some 145, some 146, some 147, some 148, some 149, some 150, some 151, some 152, some 153, some 154, some 155, some 156, some 157, some 158, some 159, some 160, some 8] [some (.bool true), some (.bool true), some (.bool true), some (.bool true), some (.bool true), some (.bool true), some (.bool true), some (.bool true), some (.bool true), some (.bool true), some (.bool true), some (.pointer (some ⟨NA, 0, none⟩)), some (.pointer (some ⟨NA, 0, none⟩)), some (.int .u32 (gA.r 0)), some (.int .u32 sh), some (.pointer (some ⟨S, 0, none⟩)), some (.pointer (some ⟨S, 0, none⟩)), some (.int .u32 (g1.r 0)), some (.int .u32 sh), some (.bool true), some (.bool true), some (.bool true), some (.pointer (some ⟨NA, 0, none⟩)), some (.pointer (some ⟨NA, 0, none⟩)), some (.int .u32 (gA.r 0)), some (.int .u32 ia), some (.bool true), some (.bool true), some (.bool true), some (.pointer (some ⟨NF, 0, none⟩)), some (.pointer (some ⟨NF, 0, none⟩)), some (.int .u32 (gF.r 0)), some (.int .u32 jf), some (.pointer (some ⟨NA, 0, none⟩)), some (.pointer (some ⟨NA, 0, none⟩)), some (.int .u32 (gA.r 0)), some (.int .u32 ia), some (.int .u32 jf), some (.bool true), some (.bool true), some (.bool true), some (.pointer (some ⟨NM, 0, none⟩)), some (.pointer (some ⟨NM, 1, none⟩)), some (.int .u32 (gM.r 1)), some (.int .u32 (g1.r 1)), some (.bool true), some (.bool true), some (.bool true), some (.pointer (some ⟨NE, 8, none⟩)), some (.int .u32 gE.pc), some (.int .u32 ((g1.pc + 2) % 4294967296)), some (.bool true), some (.bool true), some (.bool true), some (.pointer (some ⟨NE, 0, none⟩)), some (.agg #[.int .u32 (g1.r 0), .int .u32 (g1.r 1), .int .u32 (g1.r 2), .int .u32 (g1.r 3), .int .u32 (g1.r 4), .int .u32 (g1.r 5), .int .u32 (g1.r 6), .int .u32 (g1.r 7)]), some (.pointer (some ⟨S, 0, none⟩)), some (.agg #[.int .u32 (g1.r 0), .int .u32 (g1.r 1), .int .u32 (g1.r 2), .int .u32 (g1.r 3), .int .u32 (g1.r 4), .int .u32 (g1.r 5), .int .u32 (g1.r 6), .int .u32 (g1.r 7)]), some (.bool true), some (.bool true), some (.bool true), some (.pointer (some ⟨NE, 9, none⟩)), some (.agg #[.bool (g1.f 0), .bool (g1.f 1), .bool (g1.f 2), .bool (g1.f 3), .bool (g1.f 4), .bool (g1.f 5)]), some (.pointer (some ⟨S, 9, none⟩)), some (.agg #[.bool (g1.f 0), .bool (g1.f 1), .bool (g1.f 2), .bool (g1.f 3), .bool (g1.f 4), .bool (g1.f 5)]), some (.bool true), some (.bool true), some (.bool true)] (RI (fun k W => Pg S w W B (bif k then Mm.new else Mm.new)) B 68 68 [(NF, 29, stA gF), (NE, 29, stA gE), (NM, 29, stA gM), (NA, 29, stA gA), (S, 29, stA g1)] []) (fun _ => 0) (by kernel_rfl) (fun s => ?_) (RI.start p kk.out _) ?_ (fun s Wq h => ?_)
    rotate_left
    · simp only [vsOf, putD, Act.put, Nat.reduceAdd, List.setIfInBounds_toArray, List.set_cons_zero, List.set_cons_succ]
      rfl
    · refine AllOps.cons ?_ (AllOps.cons ?_ (AllOps.cons ?_ (AllOps.cons ?_ (AllOps.cons ?_ (AllOps.cons ?_ (AllOps.cons ?_ (AllOps.cons ?_ (AllOps.cons ?_ (AllOps.cons ?_ (AllOps.cons ?_ (AllOps.cons ?_ (AllOps.cons ?_ (AllOps.cons ?_ (AllOps.cons ?_ (AllOps.cons ?_ (AllOps.cons ?_ (AllOps.cons ?_ (AllOps.cons ?_ (AllOps.cons ?_ (AllOps.cons ?_ (AllOps.cons ?_ (AllOps.cons ?_ (AllOps.cons ?_ (AllOps.cons ?_ (AllOps.cons ?_ (AllOps.cons ?_ (AllOps.cons ?_ (AllOps.cons ?_ (AllOps.cons ?_ (AllOps.cons ?_ (AllOps.cons ?_ (AllOps.cons ?_ (AllOps.cons ?_ (AllOps.cons ?_ (AllOps.cons ?_ (AllOps.cons ?_ (AllOps.cons ?_ (AllOps.cons ?_ (AllOps.cons ?_ (AllOps.cons ?_ (AllOps.cons ?_ (AllOps.cons ?_ (AllOps.cons ?_ (AllOps.cons ?_ (AllOps.cons ?_ (AllOps.cons ?_ (AllOps.cons ?_ (AllOps.cons ?_ (AllOps.cons ?_ (AllOps.cons ?_ (AllOps.cons ?_ (AllOps.cons ?_ (AllOps.cons ?_ (AllOps.cons ?_ (AllOps.cons ?_ (AllOps.cons ?_ (AllOps.cons ?_ (AllOps.cons ?_ (AllOps.cons ?_ (AllOps.cons ?_ (AllOps.cons ?_ (AllOps.cons ?_ (AllOps.cons ?_ (AllOps.cons ?_ (AllOps.cons ?_ (AllOps.cons ?_ (AllOps.cons ?_ AllOps.nil)))))))))))))))))))))))))))))))))))))))))))))))))))))))))))))))))))
      · refine ObOp.val (fun s => .bool true) (by kernel_rfl) (fun _ => rfl) (fun s => by kernel_rfl) (fun s D w hd hcl h => ?_)
        go_simp
        try rfl
      · refine ObOp.val (fun s => .bool true) (by kernel_rfl) (fun _ => rfl) (fun s => by kernel_rfl) (fun s D w hd hcl h => ?_)
        go_simp
        try rfl
      · refine ObOp.val (fun s => .bool true) (by kernel_rfl) (fun _ => rfl) (fun s => by kernel_rfl) (fun s D w hd hcl h => ?_)
        go_simp
        try rfl
      · refine ObOp.val (fun s => .bool true) (by kernel_rfl) (fun _ => rfl) (fun s => by kernel_rfl) (fun s D w hd hcl h => ?_)
        go_simp
        try rfl
      · refine ObOp.val (fun s => .bool true) (by kernel_rfl) (fun _ => rfl) (fun s => by kernel_rfl) (fun s D w hd hcl h => ?_)
        go_simp
        try rfl
      · refine ObOp.val (fun s => .bool true) (by kernel_rfl) (fun _ => rfl) (fun s => by kernel_rfl) (fun s D w hd hcl h => ?_)
        go_simp
        try rfl
      · refine ObOp.val (fun s => .bool true) (by kernel_rfl) (fun _ => rfl) (fun s => by kernel_rfl) (fun s D w hd hcl h => ?_)
        go_simp
        try rfl
      · refine ObOp.val (fun s => .bool true) (by kernel_rfl) (fun _ => rfl) (fun s => by kernel_rfl) (fun s D w hd hcl h => ?_)
        go_simp
        try rfl
      · refine ObOp.val (fun s => .bool true) (by kernel_rfl) (fun _ => rfl) (fun s => by kernel_rfl) (fun s D w hd hcl h => ?_)
        go_simp
        try rfl
      · refine ObOp.val (fun s => .bool true) (by kernel_rfl) (fun _ => rfl) (fun s => by kernel_rfl) (fun s D w hd hcl h => ?_)
        go_simp
        try rfl
      · refine ObOp.val (fun s => .bool true) (by kernel_rfl) (fun _ => rfl) (fun s => by kernel_rfl) (fun s D w hd hcl h => ?_)
        go_simp
        try rfl
      · refine ObOp.val (fun s => .pointer (some ⟨NA, 0, none⟩)) (by kernel_rfl) (fun _ => rfl) (fun s => by kernel_rfl) (fun s D w hd hcl h => ?_)
        go_simp
        try rfl
      · refine ObOp.val (fun s => .pointer (some ⟨NA, 0, none⟩)) (by kernel_rfl) (fun _ => rfl) (fun s => by kernel_rfl) (fun s D w hd hcl h => ?_)
        go_simp
        try rfl
      · refine ObOp.val (fun s => .int .u32 (gA.r 0)) (by kernel_rfl) (fun _ => rfl) (fun s => by kernel_rfl) (fun s D w hd hcl h => ?_)
        have c := (h.k _ (List.mem_cons_of_mem _ (List.mem_cons_of_mem _ (List.mem_cons_of_mem _ List.mem_cons_self)))).cell (i := 0) (v := .int .u32 (gA.r 0)) rfl
        go_simp
        try rfl
      · refine ObOp.val (fun s => .int .u32 sh) (by kernel_rfl) (fun _ => rfl) (fun s => by kernel_rfl) (fun s D w hd hcl h => ?_)
        go_simp
        try exact hsa
      · refine ObOp.val (fun s => .pointer (some ⟨S, 0, none⟩)) (by kernel_rfl) (fun _ => rfl) (fun s => by kernel_rfl) (fun s D w hd hcl h => ?_)
        go_simp
        try rfl
      · refine ObOp.val (fun s => .pointer (some ⟨S, 0, none⟩)) (by kernel_rfl) (fun _ => rfl) (fun s => by kernel_rfl) (fun s D w hd hcl h => ?_)
        go_simp
        try rfl
      · refine ObOp.val (fun s => .int .u32 (g1.r 0)) (by kernel_rfl) (fun _ => rfl) (fun s => by kernel_rfl) (fun s D w hd hcl h => ?_)
        have c := (h.k _ (List.mem_cons_of_mem _ (List.mem_cons_of_mem _ (List.mem_cons_of_mem _ (List.mem_cons_of_mem _ List.mem_cons_self))))).cell (i := 0) (v := .int .u32 (g1.r 0)) rfl
        go_simp
        try rfl
      · refine ObOp.val (fun s => .int .u32 sh) (by kernel_rfl) (fun _ => rfl) (fun s => by kernel_rfl) (fun s D w hd hcl h => ?_)
        go_simp
        try exact hss
      · refine ObOp.val (fun s => .bool true) (by kernel_rfl) (fun _ => rfl) (fun s => by kernel_rfl) (fun s D w hd hcl h => ?_)
        go_simp
        try rfl
      · refine ObOp.val (fun s => .bool true) (by kernel_rfl) (fun _ => rfl) (fun s => by kernel_rfl) (fun s D w hd hcl h => ?_)
        go_simp
        try rfl
      · refine ObOp.val (fun s => .bool true) (by kernel_rfl) (fun _ => rfl) (fun s => by kernel_rfl) (fun s D w hd hcl h => ?_)
        go_simp
        try rfl
      · refine ObOp.val (fun s => .pointer (some ⟨NA, 0, none⟩)) (by kernel_rfl) (fun _ => rfl) (fun s => by kernel_rfl) (fun s D w hd hcl h => ?_)
        go_simp
        try rfl
      · refine ObOp.val (fun s => .pointer (some ⟨NA, 0, none⟩)) (by kernel_rfl) (fun _ => rfl) (fun s => by kernel_rfl) (fun s D w hd hcl h => ?_)
        go_simp
        try rfl
      · refine ObOp.val (fun s => .int .u32 (gA.r 0)) (by kernel_rfl) (fun _ => rfl) (fun s => by kernel_rfl) (fun s D w hd hcl h => ?_)
        have c := (h.k _ (List.mem_cons_of_mem _ (List.mem_cons_of_mem _ (List.mem_cons_of_mem _ List.mem_cons_self)))).cell (i := 0) (v := .int .u32 (gA.r 0)) rfl
        go_simp
        try rfl
      · refine ObOp.val (fun s => .int .u32 ia) (by kernel_rfl) (fun _ => rfl) (fun s => by kernel_rfl) (fun s D w hd hcl h => ?_)
        go_simp
        try exact hia
      · refine ObOp.val (fun s => .bool true) (by kernel_rfl) (fun _ => rfl) (fun s => by kernel_rfl) (fun s D w hd hcl h => ?_)
        go_simp
        try exact hib
      · refine ObOp.val (fun s => .bool true) (by kernel_rfl) (fun _ => rfl) (fun s => by kernel_rfl) (fun s D w hd hcl h => ?_)
        go_simp
        try rfl
      · refine ObOp.val (fun s => .bool true) (by kernel_rfl) (fun _ => rfl) (fun s => by kernel_rfl) (fun s D w hd hcl h => ?_)
        go_simp
        try rfl
      · refine ObOp.val (fun s => .pointer (some ⟨NF, 0, none⟩)) (by kernel_rfl) (fun _ => rfl) (fun s => by kernel_rfl) (fun s D w hd hcl h => ?_)
        go_simp
        try rfl
      · refine ObOp.val (fun s => .pointer (some ⟨NF, 0, none⟩)) (by kernel_rfl) (fun _ => rfl) (fun s => by kernel_rfl) (fun s D w hd hcl h => ?_)
        go_simp
        try rfl
      · refine ObOp.val (fun s => .int .u32 (gF.r 0)) (by kernel_rfl) (fun _ => rfl) (fun s => by kernel_rfl) (fun s D w hd hcl h => ?_)
        have c := (h.k _ List.mem_cons_self).cell (i := 0) (v := .int .u32 (gF.r 0)) rfl
        go_simp
        try rfl
      · refine ObOp.val (fun s => .int .u32 jf) (by kernel_rfl) (fun _ => rfl) (fun s => by kernel_rfl) (fun s D w hd hcl h => ?_)
        go_simp
        try exact hif
      · refine ObOp.val (fun s => .pointer (some ⟨NA, 0, none⟩)) (by kernel_rfl) (fun _ => rfl) (fun s => by kernel_rfl) (fun s D w hd hcl h => ?_)
        go_simp
        try rfl
      · refine ObOp.val (fun s => .pointer (some ⟨NA, 0, none⟩)) (by kernel_rfl) (fun _ => rfl) (fun s => by kernel_rfl) (fun s D w hd hcl h => ?_)
        go_simp
        try rfl
      · refine ObOp.val (fun s => .int .u32 (gA.r 0)) (by kernel_rfl) (fun _ => rfl) (fun s => by kernel_rfl) (fun s D w hd hcl h => ?_)
        have c := (h.k _ (List.mem_cons_of_mem _ (List.mem_cons_of_mem _ (List.mem_cons_of_mem _ List.mem_cons_self)))).cell (i := 0) (v := .int .u32 (gA.r 0)) rfl
        go_simp
        try rfl
      · refine ObOp.val (fun s => .int .u32 ia) (by kernel_rfl) (fun _ => rfl) (fun s => by kernel_rfl) (fun s D w hd hcl h => ?_)
        go_simp
        try exact hia
      · refine ObOp.val (fun s => .int .u32 jf) (by kernel_rfl) (fun _ => rfl) (fun s => by kernel_rfl) (fun s D w hd hcl h => ?_)
        go_simp
        try exact hwr
      · refine ObOp.val (fun s => .bool true) (by kernel_rfl) (fun _ => rfl) (fun s => by kernel_rfl) (fun s D w hd hcl h => ?_)
        go_simp
        try rfl
      · refine ObOp.val (fun s => .bool true) (by kernel_rfl) (fun _ => rfl) (fun s => by kernel_rfl) (fun s D w hd hcl h => ?_)
        go_simp
        try rfl
      · refine ObOp.val (fun s => .bool true) (by kernel_rfl) (fun _ => rfl) (fun s => by kernel_rfl) (fun s D w hd hcl h => ?_)
        go_simp
        try rfl
      · refine ObOp.val (fun s => .pointer (some ⟨NM, 0, none⟩)) (by kernel_rfl) (fun _ => rfl) (fun s => by kernel_rfl) (fun s D w hd hcl h => ?_)
        go_simp
        try rfl
      · refine ObOp.val (fun s => .pointer (some ⟨NM, 1, none⟩)) (by kernel_rfl) (fun _ => rfl) (fun s => by kernel_rfl) (fun s D w hd hcl h => ?_)
        go_simp
        try rfl
      · refine ObOp.val (fun s => .int .u32 (gM.r 1)) (by kernel_rfl) (fun _ => rfl) (fun s => by kernel_rfl) (fun s D w hd hcl h => ?_)
        have c := (h.k _ (List.mem_cons_of_mem _ (List.mem_cons_of_mem _ List.mem_cons_self))).cell (i := 1) (v := .int .u32 (gM.r 1)) rfl
        go_simp
        try rfl
      · refine ObOp.val (fun s => .int .u32 (g1.r 1)) (by kernel_rfl) (fun _ => rfl) (fun s => by kernel_rfl) (fun s D w hd hcl h => ?_)
        go_simp
        try rfl
      · refine ObOp.val (fun s => .bool true) (by kernel_rfl) (fun _ => rfl) (fun s => by kernel_rfl) (fun s D w hd hcl h => ?_)
        go_simp
        try exact hM1
      · refine ObOp.val (fun s => .bool true) (by kernel_rfl) (fun _ => rfl) (fun s => by kernel_rfl) (fun s D w hd hcl h => ?_)
        go_simp
        try rfl
      · refine ObOp.val (fun s => .bool true) (by kernel_rfl) (fun _ => rfl) (fun s => by kernel_rfl) (fun s D w hd hcl h => ?_)
        go_simp
        try rfl
      · refine ObOp.val (fun s => .pointer (some ⟨NE, 8, none⟩)) (by kernel_rfl) (fun _ => rfl) (fun s => by kernel_rfl) (fun s D w hd hcl h => ?_)
        go_simp
        try rfl
      · refine ObOp.val (fun s => .int .u32 gE.pc) (by kernel_rfl) (fun _ => rfl) (fun s => by kernel_rfl) (fun s D w hd hcl h => ?_)
        have c := (h.k _ (List.mem_cons_of_mem _ List.mem_cons_self)).cell (i := 8) (v := .int .u32 gE.pc) rfl
        go_simp
        try rfl
      · refine ObOp.val (fun s => .int .u32 ((g1.pc + 2) % 4294967296)) (by kernel_rfl) (fun _ => rfl) (fun s => by kernel_rfl) (fun s D w hd hcl h => ?_)
        go_simp
        try rfl
      · refine ObOp.val (fun s => .bool true) (by kernel_rfl) (fun _ => rfl) (fun s => by kernel_rfl) (fun s D w hd hcl h => ?_)
        go_simp
        try exact hpc
      · refine ObOp.val (fun s => .bool true) (by kernel_rfl) (fun _ => rfl) (fun s => by kernel_rfl) (fun s D w hd hcl h => ?_)
        go_simp
        try rfl
      · refine ObOp.val (fun s => .bool true) (by kernel_rfl) (fun _ => rfl) (fun s => by kernel_rfl) (fun s D w hd hcl h => ?_)
        go_simp
        try rfl
      · refine ObOp.val (fun s => .pointer (some ⟨NE, 0, none⟩)) (by kernel_rfl) (fun _ => rfl) (fun s => by kernel_rfl) (fun s D w hd hcl h => ?_)
        go_simp
        try rfl
      · refine ObOp.val (fun s => .agg #[.int .u32 (g1.r 0), .int .u32 (g1.r 1), .int .u32 (g1.r 2), .int .u32 (g1.r 3), .int .u32 (g1.r 4), .int .u32 (g1.r 5), .int .u32 (g1.r 6), .int .u32 (g1.r 7)]) (by kernel_rfl) (fun _ => rfl) (fun s => by kernel_rfl) (fun s D w hd hcl h => ?_)
        rw [← hEr]
        exact run_load_mid (by rfl) (by rfl) _ _ (Blk.rangeR (h.k _ (List.mem_cons_of_mem _ List.mem_cons_self))) Tryz.underlying24 rfl (by kernel_rfl)
      · refine ObOp.val (fun s => .pointer (some ⟨S, 0, none⟩)) (by kernel_rfl) (fun _ => rfl) (fun s => by kernel_rfl) (fun s D w hd hcl h => ?_)
        go_simp
        try rfl
      · refine ObOp.val (fun s => .agg #[.int .u32 (g1.r 0), .int .u32 (g1.r 1), .int .u32 (g1.r 2), .int .u32 (g1.r 3), .int .u32 (g1.r 4), .int .u32 (g1.r 5), .int .u32 (g1.r 6), .int .u32 (g1.r 7)]) (by kernel_rfl) (fun _ => rfl) (fun s => by kernel_rfl) (fun s D w hd hcl h => ?_)
        exact run_load_mid (by rfl) (by rfl) _ _ (Blk.rangeR (h.k _ (List.mem_cons_of_mem _ (List.mem_cons_of_mem _ (List.mem_cons_of_mem _ (List.mem_cons_of_mem _ List.mem_cons_self)))))) Tryz.underlying24 rfl (by kernel_rfl)
      · refine ObOp.val (fun s => .bool true) (by kernel_rfl) (fun _ => rfl) (fun s => by kernel_rfl) (fun s D w hd hcl h => ?_)
        exact run_eqR (by rfl) g1.r rfl rfl
      · refine ObOp.val (fun s => .bool true) (by kernel_rfl) (fun _ => rfl) (fun s => by kernel_rfl) (fun s D w hd hcl h => ?_)
        go_simp
        try rfl
      · refine ObOp.val (fun s => .bool true) (by kernel_rfl) (fun _ => rfl) (fun s => by kernel_rfl) (fun s D w hd hcl h => ?_)
        go_simp
        try rfl
      · refine ObOp.val (fun s => .pointer (some ⟨NE, 9, none⟩)) (by kernel_rfl) (fun _ => rfl) (fun s => by kernel_rfl) (fun s D w hd hcl h => ?_)
        go_simp
        try rfl
      · refine ObOp.val (fun s => .agg #[.bool (g1.f 0), .bool (g1.f 1), .bool (g1.f 2), .bool (g1.f 3), .bool (g1.f 4), .bool (g1.f 5)]) (by kernel_rfl) (fun _ => rfl) (fun s => by kernel_rfl) (fun s D w hd hcl h => ?_)
        rw [← hEf]
        exact run_load_mid (by rfl) (by rfl) _ _ (Blk.rangeF (h.k _ (List.mem_cons_of_mem _ List.mem_cons_self))) Tryz.underlying26 rfl (by kernel_rfl)
      · refine ObOp.val (fun s => .pointer (some ⟨S, 9, none⟩)) (by kernel_rfl) (fun _ => rfl) (fun s => by kernel_rfl) (fun s D w hd hcl h => ?_)
        go_simp
        try rfl
      · refine ObOp.val (fun s => .agg #[.bool (g1.f 0), .bool (g1.f 1), .bool (g1.f 2), .bool (g1.f 3), .bool (g1.f 4), .bool (g1.f 5)]) (by kernel_rfl) (fun _ => rfl) (fun s => by kernel_rfl) (fun s D w hd hcl h => ?_)
        exact run_load_mid (by rfl) (by rfl) _ _ (Blk.rangeF (h.k _ (List.mem_cons_of_mem _ (List.mem_cons_of_mem _ (List.mem_cons_of_mem _ (List.mem_cons_of_mem _ List.mem_cons_self)))))) Tryz.underlying26 rfl (by kernel_rfl)
      · refine ObOp.val (fun s => .bool true) (by kernel_rfl) (fun _ => rfl) (fun s => by kernel_rfl) (fun s D w hd hcl h => ?_)
        go_simp
        try rfl
      · refine ObOp.val (fun s => .bool true) (by kernel_rfl) (fun _ => rfl) (fun s => by kernel_rfl) (fun s D w hd hcl h => ?_)
        go_simp
        try rfl
      · refine ObOp.val (fun s => .bool true) (by kernel_rfl) (fun _ => rfl) (fun s => by kernel_rfl) (fun s D w hd hcl h => ?_)
        go_simp
        try rfl
    go_wp2_with fail
    exact bodyPost_ret (v := .bool true) (by simp [results, Tryz.results11, go_sem]) rfl ⟨rfl, by rw [hS0]; exact h.g.done⟩
  · replace hM1 : gM.r 1 = v := hM1
    replace hpc : gE.pc = ((g1.pc + 2) % 4294967296 + d) % 4294967296 := hpc
    go_upto_region 15 with fail
    refine wp_region_seq (F := ?_) (fun _ _ => False) (fun _ _ _ _ h => h.elim) [some 94, some 95, some 96, some 97, some 98, some 99, some 100, some 101, some 102, some 103, some 104, some 105, some 106, some 107, some 108, some 109, some 110, some 111, some 112, some 113, some 114, some 115, some 116, some 117, some 118, some 119, some 120, some 121, some 122, some 123, some 124, some 125, some 126, some 127, some 128, some 129, some 130, some 131, some 132, some 133, some 134, some 135, some 136, some 137, some 138, some 139, some 140, some 141, some 142, some 143, some 144, some 145, some 146, some 147, some 148, some 149, some 150, some 151, some 152, some 153, some 154, some 155, some 156, some 157, some 158, some 159, some 160, some 8] [some (.bool true), some (.bool true), some (.bool true), some (.bool true), some (.bool true), some (.bool true), some (.bool true), some (.bool true), some (.bool true), some (.bool true), some (.bool true), some (.pointer (some ⟨NA, 0, none⟩)), some (.pointer (some ⟨NA, 0, none⟩)), some (.int .u32 (gA.r 0)), some (.int .u32 sh), some (.pointer (some ⟨S, 0, none⟩)), some (.pointer (some ⟨S, 0, none⟩)), some (.int .u32 (g1.r 0)), some (.int .u32 sh), some (.bool true), some (.bool true), some (.bool true), some (.pointer (some ⟨NA, 0, none⟩)), some (.pointer (some ⟨NA, 0, none⟩)), some (.int .u32 (gA.r 0)), some (.int .u32 ia), some (.bool true), some (.bool true), some (.bool true), some (.pointer (some ⟨NF, 0, none⟩)), some (.pointer (some ⟨NF, 0, none⟩)), some (.int .u32 (gF.r 0)), some (.int .u32 jf), some (.pointer (some ⟨NA, 0, none⟩)), some (.pointer (some ⟨NA, 0, none⟩)), some (.int .u32 (gA.r 0)), some (.int .u32 ia), some (.int .u32 jf), some (.bool true), some (.bool true), some (.bool true), some (.pointer (some ⟨NM, 0, none⟩)), some (.pointer (some ⟨NM, 1, none⟩)), some (.int .u32 (gM.r 1)), some (.int .u32 (v)), some (.bool true), some (.bool true), some (.bool true), some (.pointer (some ⟨NE, 8, none⟩)), some (.int .u32 gE.pc), some (.int .u32 (((g1.pc + 2) % 4294967296 + d) % 4294967296)), some (.bool true), some (.bool true), some (.bool true), some (.pointer (some ⟨NE, 0, none⟩)), some (.agg #[.int .u32 (g1.r 0), .int .u32 (g1.r 1), .int .u32 (g1.r 2), .int .u32 (g1.r 3), .int .u32 (g1.r 4), .int .u32 (g1.r 5), .int .u32 (g1.r 6), .int .u32 (g1.r 7)]), some (.pointer (some ⟨S, 0, none⟩)), some (.agg #[.int .u32 (g1.r 0), .int .u32 (g1.r 1), .int .u32 (g1.r 2), .int .u32 (g1.r 3), .int .u32 (g1.r 4), .int .u32 (g1.r 5), .int .u32 (g1.r 6), .int .u32 (g1.r 7)]), some (.bool true), some (.bool true), some (.bool true), some (.pointer (some ⟨NE, 9, none⟩)), some (.agg #[.bool (g1.f 0), .bool (g1.f 1), .bool (g1.f 2), .bool (g1.f 3), .bool (g1.f 4), .bool (g1.f 5)]), some (.pointer (some ⟨S, 9, none⟩)), some (.agg #[.bool (g1.f 0), .bool (g1.f 1), .bool (g1.f 2), .bool (g1.f 3), .bool (g1.f 4), .bool (g1.f 5)]), some (.bool true), some (.bool true), some (.bool true)] (RI (fun k W => Pg S w W B (bif k then Mm.new else Mm.new)) B 68 68 [(NF, 29, stA gF), (NE, 29, stA gE), (NM, 29, stA gM), (NA, 29, stA gA), (S, 29, stA g1)] []) (fun _ => 0) (by kernel_rfl) (fun s => ?_) (RI.start p kk.out _) ?_ (fun s Wq h => ?_)
    rotate_left
    · simp only [vsOf, putD, Act.put, Nat.reduceAdd, List.setIfInBounds_toArray, List.set_cons_zero, List.set_cons_succ]
      rfl
    · refine AllOps.cons ?_ (AllOps.cons ?_ (AllOps.cons ?_ (AllOps.cons ?_ (AllOps.cons ?_ (AllOps.cons ?_ (AllOps.cons ?_ (AllOps.cons ?_ (AllOps.cons ?_ (AllOps.cons ?_ (AllOps.cons ?_ (AllOps.cons ?_ (AllOps.cons ?_ (AllOps.cons ?_ (AllOps.cons ?_ (AllOps.cons ?_ (AllOps.cons ?_ (AllOps.cons ?_ (AllOps.cons ?_ (AllOps.cons ?_ (AllOps.cons ?_ (AllOps.cons ?_ (AllOps.cons ?_ (AllOps.cons ?_ (AllOps.cons ?_ (AllOps.cons ?_ (AllOps.cons ?_ (AllOps.cons ?_ (AllOps.cons ?_ (AllOps.cons ?_ (AllOps.cons ?_ (AllOps.cons ?_ (AllOps.cons ?_ (AllOps.cons ?_ (AllOps.cons ?_ (AllOps.cons ?_ (AllOps.cons ?_ (AllOps.cons ?_ (AllOps.cons ?_ (AllOps.cons ?_ (AllOps.cons ?_ (AllOps.cons ?_ (AllOps.cons ?_ (AllOps.cons ?_ (AllOps.cons ?_ (AllOps.cons ?_ (AllOps.cons ?_ (AllOps.cons ?_ (AllOps.cons ?_ (AllOps.cons ?_ (AllOps.cons ?_ (AllOps.cons ?_ (AllOps.cons ?_ (AllOps.cons ?_ (AllOps.cons ?_ (AllOps.cons ?_ (AllOps.cons ?_ (AllOps.cons ?_ (AllOps.cons ?_ (AllOps.cons ?_ (AllOps.cons ?_ (AllOps.cons ?_ (AllOps.cons ?_ (AllOps.cons ?_ (AllOps.cons ?_ (AllOps.cons ?_ (AllOps.cons ?_ (AllOps.cons ?_ AllOps.nil)))))))))))))))))))))))))))))))))))))))))))))))))))))))))))))))))))
      · refine ObOp.val (fun s => .bool true) (by kernel_rfl) (fun _ => rfl) (fun s => by kernel_rfl) (fun s D w hd hcl h => ?_)
        go_simp
        try rfl
      · refine ObOp.val (fun s => .bool true) (by kernel_rfl) (fun _ => rfl) (fun s => by kernel_rfl) (fun s D w hd hcl h => ?_)
        go_simp
        try rfl
      · refine ObOp.val (fun s => .bool true) (by kernel_rfl) (fun _ => rfl) (fun s => by kernel_rfl) (fun s D w hd hcl h => ?_)
        go_simp
        try rfl
      · refine ObOp.val (fun s => .bool true) (by kernel_rfl) (fun _ => rfl) (fun s => by kernel_rfl) (fun s D w hd hcl h => ?_)
        go_simp
        try rfl
      · refine ObOp.val (fun s => .bool true) (by kernel_rfl) (fun _ => rfl) (fun s => by kernel_rfl) (fun s D w hd hcl h => ?_)
        go_simp
        try rfl
      · refine ObOp.val (fun s => .bool true) (by kernel_rfl) (fun _ => rfl) (fun s => by kernel_rfl) (fun s D w hd hcl h => ?_)
        go_simp
        try rfl
      · refine ObOp.val (fun s => .bool true) (by kernel_rfl) (fun _ => rfl) (fun s => by kernel_rfl) (fun s D w hd hcl h => ?_)
        go_simp
        try rfl
      · refine ObOp.val (fun s => .bool true) (by kernel_rfl) (fun _ => rfl) (fun s => by kernel_rfl) (fun s D w hd hcl h => ?_)
        go_simp
        try rfl
      · refine ObOp.val (fun s => .bool true) (by kernel_rfl) (fun _ => rfl) (fun s => by kernel_rfl) (fun s D w hd hcl h => ?_)
        go_simp
        try rfl
      · refine ObOp.val (fun s => .bool true) (by kernel_rfl) (fun _ => rfl) (fun s => by kernel_rfl) (fun s D w hd hcl h => ?_)
        go_simp
        try rfl
      · refine ObOp.val (fun s => .bool true) (by kernel_rfl) (fun _ => rfl) (fun s => by kernel_rfl) (fun s D w hd hcl h => ?_)
        go_simp
        try rfl
      · refine ObOp.val (fun s => .pointer (some ⟨NA, 0, none⟩)) (by kernel_rfl) (fun _ => rfl) (fun s => by kernel_rfl) (fun s D w hd hcl h => ?_)
        go_simp
        try rfl
      · refine ObOp.val (fun s => .pointer (some ⟨NA, 0, none⟩)) (by kernel_rfl) (fun _ => rfl) (fun s => by kernel_rfl) (fun s D w hd hcl h => ?_)
        go_simp
        try rfl
      · refine ObOp.val (fun s => .int .u32 (gA.r 0)) (by kernel_rfl) (fun _ => rfl) (fun s => by kernel_rfl) (fun s D w hd hcl h => ?_)
        have c := (h.k _ (List.mem_cons_of_mem _ (List.mem_cons_of_mem _ (List.mem_cons_of_mem _ List.mem_cons_self)))).cell (i := 0) (v := .int .u32 (gA.r 0)) rfl
        go_simp
        try rfl
      · refine ObOp.val (fun s => .int .u32 sh) (by kernel_rfl) (fun _ => rfl) (fun s => by kernel_rfl) (fun s D w hd hcl h => ?_)
        go_simp
        try exact hsa
      · refine ObOp.val (fun s => .pointer (some ⟨S, 0, none⟩)) (by kernel_rfl) (fun _ => rfl) (fun s => by kernel_rfl) (fun s D w hd hcl h => ?_)
        go_simp
        try rfl
      · refine ObOp.val (fun s => .pointer (some ⟨S, 0, none⟩)) (by kernel_rfl) (fun _ => rfl) (fun s => by kernel_rfl) (fun s D w hd hcl h => ?_)
        go_simp
        try rfl
      · refine ObOp.val (fun s => .int .u32 (g1.r 0)) (by kernel_rfl) (fun _ => rfl) (fun s => by kernel_rfl) (fun s D w hd hcl h => ?_)
        have c := (h.k _ (List.mem_cons_of_mem _ (List.mem_cons_of_mem _ (List.mem_cons_of_mem _ (List.mem_cons_of_mem _ List.mem_cons_self))))).cell (i := 0) (v := .int .u32 (g1.r 0)) rfl
        go_simp
        try rfl
      · refine ObOp.val (fun s => .int .u32 sh) (by kernel_rfl) (fun _ => rfl) (fun s => by kernel_rfl) (fun s D w hd hcl h => ?_)
        go_simp
        try exact hss
      · refine ObOp.val (fun s => .bool true) (by kernel_rfl) (fun _ => rfl) (fun s => by kernel_rfl) (fun s D w hd hcl h => ?_)
        go_simp
        try rfl
      · refine ObOp.val (fun s => .bool true) (by kernel_rfl) (fun _ => rfl) (fun s => by kernel_rfl) (fun s D w hd hcl h => ?_)
        go_simp
        try rfl
      · refine ObOp.val (fun s => .bool true) (by kernel_rfl) (fun _ => rfl) (fun s => by kernel_rfl) (fun s D w hd hcl h => ?_)
        go_simp
        try rfl
      · refine ObOp.val (fun s => .pointer (some ⟨NA, 0, none⟩)) (by kernel_rfl) (fun _ => rfl) (fun s => by kernel_rfl) (fun s D w hd hcl h => ?_)
        go_simp
        try rfl
      · refine ObOp.val (fun s => .pointer (some ⟨NA, 0, none⟩)) (by kernel_rfl) (fun _ => rfl) (fun s => by kernel_rfl) (fun s D w hd hcl h => ?_)
        go_simp
        try rfl
      · refine ObOp.val (fun s => .int .u32 (gA.r 0)) (by kernel_rfl) (fun _ => rfl) (fun s => by kernel_rfl) (fun s D w hd hcl h => ?_)
        have c := (h.k _ (List.mem_cons_of_mem _ (List.mem_cons_of_mem _ (List.mem_cons_of_mem _ List.mem_cons_self)))).cell (i := 0) (v := .int .u32 (gA.r 0)) rfl
        go_simp
        try rfl
      · refine ObOp.val (fun s => .int .u32 ia) (by kernel_rfl) (fun _ => rfl) (fun s => by kernel_rfl) (fun s D w hd hcl h => ?_)
        go_simp
        try exact hia
      · refine ObOp.val (fun s => .bool true) (by kernel_rfl) (fun _ => rfl) (fun s => by kernel_rfl) (fun s D w hd hcl h => ?_)
        go_simp
        try exact hib
      · refine ObOp.val (fun s => .bool true) (by kernel_rfl) (fun _ => rfl) (fun s => by kernel_rfl) (fun s D w hd hcl h => ?_)
        go_simp
        try rfl
      · refine ObOp.val (fun s => .bool true) (by kernel_rfl) (fun _ => rfl) (fun s => by kernel_rfl) (fun s D w hd hcl h => ?_)
        go_simp
        try rfl
      · refine ObOp.val (fun s => .pointer (some ⟨NF, 0, none⟩)) (by kernel_rfl) (fun _ => rfl) (fun s => by kernel_rfl) (fun s D w hd hcl h => ?_)
        go_simp
        try rfl
      · refine ObOp.val (fun s => .pointer (some ⟨NF, 0, none⟩)) (by kernel_rfl) (fun _ => rfl) (fun s => by kernel_rfl) (fun s D w hd hcl h => ?_)
        go_simp
        try rfl
      · refine ObOp.val (fun s => .int .u32 (gF.r 0)) (by kernel_rfl) (fun _ => rfl) (fun s => by kernel_rfl) (fun s D w hd hcl h => ?_)
        have c := (h.k _ List.mem_cons_self).cell (i := 0) (v := .int .u32 (gF.r 0)) rfl
        go_simp
        try rfl
      · refine ObOp.val (fun s => .int .u32 jf) (by kernel_rfl) (fun _ => rfl) (fun s => by kernel_rfl) (fun s D w hd hcl h => ?_)
        go_simp
        try exact hif
      · refine ObOp.val (fun s => .pointer (some ⟨NA, 0, none⟩)) (by kernel_rfl) (fun _ => rfl) (fun s => by kernel_rfl) (fun s D w hd hcl h => ?_)
        go_simp
        try rfl
      · refine ObOp.val (fun s => .pointer (some ⟨NA, 0, none⟩)) (by kernel_rfl) (fun _ => rfl) (fun s => by kernel_rfl) (fun s D w hd hcl h => ?_)
        go_simp
        try rfl
      · refine ObOp.val (fun s => .int .u32 (gA.r 0)) (by kernel_rfl) (fun _ => rfl) (fun s => by kernel_rfl) (fun s D w hd hcl h => ?_)
        have c := (h.k _ (List.mem_cons_of_mem _ (List.mem_cons_of_mem _ (List.mem_cons_of_mem _ List.mem_cons_self)))).cell (i := 0) (v := .int .u32 (gA.r 0)) rfl
        go_simp
        try rfl
      · refine ObOp.val (fun s => .int .u32 ia) (by kernel_rfl) (fun _ => rfl) (fun s => by kernel_rfl) (fun s D w hd hcl h => ?_)
        go_simp
        try exact hia
      · refine ObOp.val (fun s => .int .u32 jf) (by kernel_rfl) (fun _ => rfl) (fun s => by kernel_rfl) (fun s D w hd hcl h => ?_)
        go_simp
        try exact hwr
      · refine ObOp.val (fun s => .bool true) (by kernel_rfl) (fun _ => rfl) (fun s => by kernel_rfl) (fun s D w hd hcl h => ?_)
        go_simp
        try rfl
      · refine ObOp.val (fun s => .bool true) (by kernel_rfl) (fun _ => rfl) (fun s => by kernel_rfl) (fun s D w hd hcl h => ?_)
        go_simp
        try rfl
      · refine ObOp.val (fun s => .bool true) (by kernel_rfl) (fun _ => rfl) (fun s => by kernel_rfl) (fun s D w hd hcl h => ?_)
        go_simp
        try rfl
      · refine ObOp.val (fun s => .pointer (some ⟨NM, 0, none⟩)) (by kernel_rfl) (fun _ => rfl) (fun s => by kernel_rfl) (fun s D w hd hcl h => ?_)
        go_simp
        try rfl
      · refine ObOp.val (fun s => .pointer (some ⟨NM, 1, none⟩)) (by kernel_rfl) (fun _ => rfl) (fun s => by kernel_rfl) (fun s D w hd hcl h => ?_)
        go_simp
        try rfl
      · refine ObOp.val (fun s => .int .u32 (gM.r 1)) (by kernel_rfl) (fun _ => rfl) (fun s => by kernel_rfl) (fun s D w hd hcl h => ?_)
        have c := (h.k _ (List.mem_cons_of_mem _ (List.mem_cons_of_mem _ List.mem_cons_self))).cell (i := 1) (v := .int .u32 (gM.r 1)) rfl
        go_simp
        try rfl
      · refine ObOp.val (fun s => .int .u32 (v)) (by kernel_rfl) (fun _ => rfl) (fun s => by kernel_rfl) (fun s D w hd hcl h => ?_)
        go_simp
        try rfl
      · refine ObOp.val (fun s => .bool true) (by kernel_rfl) (fun _ => rfl) (fun s => by kernel_rfl) (fun s D w hd hcl h => ?_)
        go_simp
        try exact hM1
      · refine ObOp.val (fun s => .bool true) (by kernel_rfl) (fun _ => rfl) (fun s => by kernel_rfl) (fun s D w hd hcl h => ?_)
        go_simp
        try rfl
      · refine ObOp.val (fun s => .bool true) (by kernel_rfl) (fun _ => rfl) (fun s => by kernel_rfl) (fun s D w hd hcl h => ?_)
        go_simp
        try rfl
      · refine ObOp.val (fun s => .pointer (some ⟨NE, 8, none⟩)) (by kernel_rfl) (fun _ => rfl) (fun s => by kernel_rfl) (fun s D w hd hcl h => ?_)
        go_simp
        try rfl
      · refine ObOp.val (fun s => .int .u32 gE.pc) (by kernel_rfl) (fun _ => rfl) (fun s => by kernel_rfl) (fun s D w hd hcl h => ?_)
        have c := (h.k _ (List.mem_cons_of_mem _ List.mem_cons_self)).cell (i := 8) (v := .int .u32 gE.pc) rfl
        go_simp
        try rfl
      · refine ObOp.val (fun s => .int .u32 (((g1.pc + 2) % 4294967296 + d) % 4294967296)) (by kernel_rfl) (fun _ => rfl) (fun s => by kernel_rfl) (fun s D w hd hcl h => ?_)
        go_simp
        try rfl
      · refine ObOp.val (fun s => .bool true) (by kernel_rfl) (fun _ => rfl) (fun s => by kernel_rfl) (fun s D w hd hcl h => ?_)
        go_simp
        try exact hpc
      · refine ObOp.val (fun s => .bool true) (by kernel_rfl) (fun _ => rfl) (fun s => by kernel_rfl) (fun s D w hd hcl h => ?_)
        go_simp
        try rfl
      · refine ObOp.val (fun s => .bool true) (by kernel_rfl) (fun _ => rfl) (fun s => by kernel_rfl) (fun s D w hd hcl h => ?_)
        go_simp
        try rfl
      · refine ObOp.val (fun s => .pointer (some ⟨NE, 0, none⟩)) (by kernel_rfl) (fun _ => rfl) (fun s => by kernel_rfl) (fun s D w hd hcl h => ?_)
        go_simp
        try rfl
      · refine ObOp.val (fun s => .agg #[.int .u32 (g1.r 0), .int .u32 (g1.r 1), .int .u32 (g1.r 2), .int .u32 (g1.r 3), .int .u32 (g1.r 4), .int .u32 (g1.r 5), .int .u32 (g1.r 6), .int .u32 (g1.r 7)]) (by kernel_rfl) (fun _ => rfl) (fun s => by kernel_rfl) (fun s D w hd hcl h => ?_)
        rw [← hEr]
        exact run_load_mid (by rfl) (by rfl) _ _ (Blk.rangeR (h.k _ (List.mem_cons_of_mem _ List.mem_cons_self))) Tryz.underlying24 rfl (by kernel_rfl)
      · refine ObOp.val (fun s => .pointer (some ⟨S, 0, none⟩)) (by kernel_rfl) (fun _ => rfl) (fun s => by kernel_rfl) (fun s D w hd hcl h => ?_)
        go_simp
        try rfl
      · refine ObOp.val (fun s => .agg #[.int .u32 (g1.r 0), .int .u32 (g1.r 1), .int .u32 (g1.r 2), .int .u32 (g1.r 3), .int .u32 (g1.r 4), .int .u32 (g1.r 5), .int .u32 (g1.r 6), .int .u32 (g1.r 7)]) (by kernel_rfl) (fun _ => rfl) (fun s => by kernel_rfl) (fun s D w hd hcl h => ?_)
        exact run_load_mid (by rfl) (by rfl) _ _ (Blk.rangeR (h.k _ (List.mem_cons_of_mem _ (List.mem_cons_of_mem _ (List.mem_cons_of_mem _ (List.mem_cons_of_mem _ List.mem_cons_self)))))) Tryz.underlying24 rfl (by kernel_rfl)
      · refine ObOp.val (fun s => .bool true) (by kernel_rfl) (fun _ => rfl) (fun s => by kernel_rfl) (fun s D w hd hcl h => ?_)
        exact run_eqR (by rfl) g1.r rfl rfl
      · refine ObOp.val (fun s => .bool true) (by kernel_rfl) (fun _ => rfl) (fun s => by kernel_rfl) (fun s D w hd hcl h => ?_)
        go_simp
        try rfl
      · refine ObOp.val (fun s => .bool true) (by kernel_rfl) (fun _ => rfl) (fun s => by kernel_rfl) (fun s D w hd hcl h => ?_)
        go_simp
        try rfl
      · refine ObOp.val (fun s => .pointer (some ⟨NE, 9, none⟩)) (by kernel_rfl) (fun _ => rfl) (fun s => by kernel_rfl) (fun s D w hd hcl h => ?_)
        go_simp
        try rfl
      · refine ObOp.val (fun s => .agg #[.bool (g1.f 0), .bool (g1.f 1), .bool (g1.f 2), .bool (g1.f 3), .bool (g1.f 4), .bool (g1.f 5)]) (by kernel_rfl) (fun _ => rfl) (fun s => by kernel_rfl) (fun s D w hd hcl h => ?_)
        rw [← hEf]
        exact run_load_mid (by rfl) (by rfl) _ _ (Blk.rangeF (h.k _ (List.mem_cons_of_mem _ List.mem_cons_self))) Tryz.underlying26 rfl (by kernel_rfl)
      · refine ObOp.val (fun s => .pointer (some ⟨S, 9, none⟩)) (by kernel_rfl) (fun _ => rfl) (fun s => by kernel_rfl) (fun s D w hd hcl h => ?_)
        go_simp
        try rfl
      · refine ObOp.val (fun s => .agg #[.bool (g1.f 0), .bool (g1.f 1), .bool (g1.f 2), .bool (g1.f 3), .bool (g1.f 4), .bool (g1.f 5)]) (by kernel_rfl) (fun _ => rfl) (fun s => by kernel_rfl) (fun s D w hd hcl h => ?_)
        exact run_load_mid (by rfl) (by rfl) _ _ (Blk.rangeF (h.k _ (List.mem_cons_of_mem _ (List.mem_cons_of_mem _ (List.mem_cons_of_mem _ (List.mem_cons_of_mem _ List.mem_cons_self)))))) Tryz.underlying26 rfl (by kernel_rfl)
      · refine ObOp.val (fun s => .bool true) (by kernel_rfl) (fun _ => rfl) (fun s => by kernel_rfl) (fun s D w hd hcl h => ?_)
        go_simp
        try rfl
      · refine ObOp.val (fun s => .bool true) (by kernel_rfl) (fun _ => rfl) (fun s => by kernel_rfl) (fun s D w hd hcl h => ?_)
        go_simp
        try rfl
      · refine ObOp.val (fun s => .bool true) (by kernel_rfl) (fun _ => rfl) (fun s => by kernel_rfl) (fun s D w hd hcl h => ?_)
        go_simp
        try rfl
    go_wp2_with fail
    exact bodyPost_ret (v := .bool true) (by simp [results, Tryz.results11, go_sem]) rfl ⟨rfl, by rw [hS0]; exact h.g.done⟩
end Go.Proofs.YtcdoidnfdkodoaaGreatDoor
