import Derived.Test.YtcdoidnfdkodoaaGreatDoorS52
import Derived.Test.YtcdoidnfdkodoaaGreatDoorV25
namespace Go.Proofs.YtcdoidnfdkodoaaGreatDoor
open Go.RowKit
set_option linter.unusedVariables false
set_option linter.unusedSimpArgs false
set_option linter.unusedSectionVars false
set_option maxRecDepth 100000 in
set_option maxHeartbeats 8000000 in
theorem wide_walk (g : Gs) (a b r : Int) (ha : 0 ≤ a ∧ a ≤ 4294967295) (hb : 0 ≤ b ∧ b ≤ 4294967295) (hr : 0 ≤ r ∧ r ≤ 4294967295) (g1 gT gN gV gW : Gs) (u n n0 n2 q c : Int) (hg1 : g1 = setr (setr g 0 a) 3 b)
    (hT : Hid (DoR Mm.new g1 iMl gT Mm.new)) (hZ : b = 0 → Hid (DoF Mm.new gT iDv 2 gT.pc 0 0)) (hV : b ≠ 0 → Hid (DoR Mm.new gN iDv gV Mm.new)) (hW0 : b ≠ 0 → Hid (DoR Mm.new gV iCd gW Mm.new))
    (wa : IntKind.u64.wrap a = a) (wb : IntKind.u64.wrap b = b) (wt2 : IntKind.u64.wrap (gT.r 2) = gT.r 2) (wt0 : IntKind.u64.wrap (gT.r 0) = gT.r 0) (wq : b ≠ 0 → IntKind.u64.wrap q = q)
    (hu : a * b % 18446744073709551616 = u) (hu2 : IntKind.u64.wrap (a * b) = u) (hshl : gT.r 2 * 4294967296 % 18446744073709551616 = gT.r 2 * 4294967296) (hshl2 : IntKind.u64.wrap (gT.r 2 * 4294967296) = gT.r 2 * 4294967296) (hor : bits .or .u64 (gT.r 2 * 4294967296) (gT.r 0) = u)
    (hrem : b ≠ 0 → r.tmod b = q) (hn : (u + q) % 18446744073709551616 = n) (hn2 : IntKind.u64.wrap (u + q) = n) (h0 : IntKind.u32.wrap n = n0) (h2 : IntKind.u32.wrap (n / 4294967296) = n2) (h0' : n % 4294967296 = n0) (h2' : n / 4294967296 % 4294967296 = n2) (hGN : setr (setr gT 0 n0) 2 n2 = gN)
    (hVa : b ≠ 0 → gV.r 0 = a) (hVr : b ≠ 0 → gV.r 2 = q) (hVf : b ≠ 0 → gV.f = gN.f) (hc : IntKind.u32.wrap (IntKind.i32.wrap a / 2147483648) = c) (hWc : b ≠ 0 → gW.r 2 = c) (w : World) (tabs : Tb w) :
    Calls Tryz.prog 12 #[stV g, .int .u32 a, .int .u32 b, .int .u32 r] w fun e w' => e = .returned (.bool true) ∧ Below w.heap.size w w' := by
  have b0 := (Below.refl w.heap.size w).alloc (Nat.le_refl _) (.cells (stA g) 29)
  have kS := Blk.new w 29 (stA g)
  have hK := Lib.hid (fun W (t : Tb W) => known13 W t)
  have hNew := Lib.hid (fun W => pNew W)
  have T0 := Lib.hid tabs
  replace hZ := Lib.hid hZ
  replace hV := Lib.hid hV
  replace hW0 := Lib.hid hW0
  replace hrem := Lib.hid hrem
  replace wq := Lib.hid wq
  replace hVa := Lib.hid hVa
  replace hVr := Lib.hid hVr
  replace hVf := Lib.hid hVf
  replace hWc := Lib.hid hWc
  replace hGN := Lib.hid hGN
  replace hg1 := Lib.hid hg1
  clear tabs
  go_enter Tryz.func12, Tryz.ntmps12
  go_upto_region 1 with fail
  generalize w.alloc (.cells (stA g) 29) = W0 at *
  go_upto_region 3 with (first | ((with_reducible refine (hK.out _ (T0.out.below b0)).mono ?_); rintro e W1 ⟨rfl, b1⟩))
  replace kS := kS.below b1 kS.lt
  replace b1 := b0.trans (b1.mono b0.size)
  go_upto_region 4 with (first | ((with_reducible refine (hNew.out _).mono ?_); rintro e W2 ⟨rfl, p2⟩))
  have nB := Lib.hid (show w.heap.size < W1.heap.size from kS.lt)
  replace kS := kS.below p2.done kS.lt
  replace p2 : Pg w.heap.size w W2 W1.heap.size Mm.new := ⟨p2.h, p2.ok, (But.of b1 _).trans (p2.k.mono b1.size (by simp)), b1.size⟩
  generalize W1.heap.size = B at *
  clear b0 b1
  have c0 := kS.cell (i := 0) (v := .int .u32 (g.r 0)) rfl
  have f0 := kS.fr 0
  have c3 := kS.cell (i := 3) (v := .int .u32 (g.r 3)) rfl
  have f3 := kS.fr 3
  go_upto_region 5 with fail
  clear c0 f0 c3 f3
  have bs := ((But.refl [w.heap.size] W2.heap.size W2).setCell (p := ⟨w.heap.size, 0, none⟩) (by simp) (.int .u32 a)).setCell (p := ⟨w.heap.size, 3, none⟩) (by simp) (.int .u32 b)
  have p : Pg w.heap.size w ((W2.setCell ⟨w.heap.size, 0, none⟩ (.int .u32 a)).setCell ⟨w.heap.size, 3, none⟩ (.int .u32 b)) B Mm.new := ⟨p2.h.but bs p2.h.lt (by have := nB.out; simp; omega), p2.ok, p2.k.trans (bs.mono p2.sz (fun x hx => .inr (by simp at hx; omega))), p2.l⟩
  replace kS := (kS.set 0 (.int .u32 a)).set 3 (.int .u32 b)
  rw [setrA g 0 (by decide), setrA _ 3 (by decide), ← hg1.out] at kS
  clear p2 bs hg1
  generalize (W2.setCell ⟨w.heap.size, 0, none⟩ (.int .u32 a)).setCell ⟨w.heap.size, 3, none⟩ (.int .u32 b) = Wp at *
  generalize hS0 : w.heap.size = S at *
  clear hK hNew
  have kk := Lib.hid (show ∀ x ∈ [(S, 29, stA g1)], Blk Wp x.1 x.2.1 x.2.2 from List.forall_mem_cons.2 ⟨kS, fun x hx => by cases hx⟩)
  have ol := Lib.hid (show ∀ y ∈ [(S, 29, stA g1)], y.1 ∉ [B] from List.forall_mem_cons.2 ⟨by have := nB.out; simp; omega, fun x hx => by cases hx⟩)
  clear kS
  refine wp_region_inv (F := ?_) (fun _ _ => False) (fun _ _ _ _ h => h.elim) [some 35, some 36, some 37, some 38, some 39, some 34, some 40, some 41, some 42, some 10, some 11, none, none, some 12] [some (mp B), some (stV g1), some (opV ⟨1, 3, 0, 0, 0, 0⟩), some (inV (iMl)), some (.tuple #[stV gT, fltV 0 0 0 0, .bool true]), some (.tuple #[stV gT, fltV 0 0 0 0, .bool true]), some (stV gT), some (fltV 0 0 0 0), some (.bool true), none, none, some undef, some undef, some (.bool true)] (RI (fun k W => Pg S w W B (bif k then Mm.new else Mm.new)) B 4 14 [(S, 29, stA g1)] [⟨9, 11, 29, #[.int .u32 0, .int .u32 0, .int .u32 0, .int .u32 0, .int .u32 0, .int .u32 0, .int .u32 0, .int .u32 0, .int .u32 0, .bool false, .bool false, .bool false, .bool false, .bool false, .bool false, .bool false, .int .u64 0], stA gT⟩, ⟨10, 12, 42, #[.int .i64 0, .int .u32 0, .int .u32 0, .int .i64 0], #[.int .i64 0, .int .u32 0, .int .u32 0, .int .i64 0]⟩]) (fun _ => 0) (by kernel_rfl) (by kernel_rfl) (fun s => ?_) (RI.start p.drew (fun x hx => (kk.out x hx).drew) _) ?_ (fun s Wq h => ?_)
  rotate_left
  · simp only [vsOf, putD, Act.put, Nat.reduceAdd, List.setIfInBounds_toArray, List.set_cons_zero, List.set_cons_succ]
    rfl
  · refine AllOps.cons ?_ (AllOps.cons ?_ (AllOps.cons ?_ (AllOps.cons ?_ (AllOps.cons ?_ (AllOps.cons ?_ (AllOps.cons ?_ (AllOps.cons ?_ (AllOps.cons ?_ (AllOps.cons ?_ (AllOps.cons ?_ (AllOps.cons ?_ (AllOps.cons ?_ (AllOps.cons ?_ AllOps.nil)))))))))))))
    · refine ObOp.val (fun s => mp B) (by kernel_rfl) (fun _ => rfl) (fun s => by kernel_rfl) (fun s D w hd hcl h => ?_)
      go_simp
      try rfl
    · refine ObOp.val (fun s => stV g1) (by kernel_rfl) (fun _ => rfl) (fun s => by kernel_rfl) (fun s D w hd hcl h => ?_)
      exact run_load_row (by rfl) (by rfl) 29 _ (0, 0) _ (h.k _ List.mem_cons_self).h Tryz.underlying29 rfl szS
    · refine ObOp.calls (gok13 S w B Mm.new Mm.new) (fun s => opV ⟨1, 3, 0, 0, 0, 0⟩) (35) (fun s => #[.int .i64 3]) (by kernel_rfl) (fun _ => rfl) (fun s => by kernel_rfl) (fun s D w ha h => ?_) (fun s D w hd hcl h => ?_)
      · go_simp
        try rfl
      · exact reg13 3 _
    · refine ObOp.val (fun s => inV (iMl)) (by kernel_rfl) (fun _ => rfl) (fun s => by kernel_rfl) (fun s D w hd hcl h => ?_)
      go_simp
      exact ⟨rfl, rfl, rfl, rfl, rfl, rfl, rfl, rfl, rfl, rfl, rfl, rfl, rfl, rfl, rfl, rfl⟩
    · refine ObOp.guest (Sx := [B]) (fun k hk => by simp at hk; omega) (fun s => .tuple #[stV gT, fltV 0 0 0 0, .bool true]) (19) (fun s => #[mp B, stV g1, inV (iMl)]) (by kernel_rfl) ol.out (fun _ => rfl) (fun s => by kernel_rfl) (fun s D w ha h => ?_) (fun s w hg => ?_)
      · go_simp
        try rfl
      · exact hT.out.pg T0.out hS0 new_okM hg
    · refine ObOp.val (fun s => .tuple #[stV gT, fltV 0 0 0 0, .bool true]) (by kernel_rfl) (fun _ => rfl) (fun s => by kernel_rfl) (fun s D w hd hcl h => ?_)
      go_simp
      try rfl
    · refine ObOp.val (fun s => stV gT) (by kernel_rfl) (fun _ => rfl) (fun s => by kernel_rfl) (fun s D w hd hcl h => ?_)
      go_simp
      try rfl
    · refine ObOp.val (fun s => fltV 0 0 0 0) (by kernel_rfl) (fun _ => rfl) (fun s => by kernel_rfl) (fun s D w hd hcl h => ?_)
      go_simp
      try rfl
    · refine ObOp.val (fun s => .bool true) (by kernel_rfl) (fun _ => rfl) (fun s => by kernel_rfl) (fun s D w hd hcl h => ?_)
      go_simp
      try rfl
    · refine ObOp.alloc (gok13 S w B Mm.new Mm.new) (x := ⟨9, 11, 29, #[.int .u32 0, .int .u32 0, .int .u32 0, .int .u32 0, .int .u32 0, .int .u32 0, .int .u32 0, .int .u32 0, .int .u32 0, .bool false, .bool false, .bool false, .bool false, .bool false, .bool false, .bool false, .int .u64 0], stA gT⟩) List.mem_cons_self (by kernel_rfl) (fun _ => rfl) rfl (fun s => by kernel_rfl) (fun s w => ?_)
      go_simp
      try rfl
    · refine ObOp.alloc (gok13 S w B Mm.new Mm.new) (x := ⟨10, 12, 42, #[.int .i64 0, .int .u32 0, .int .u32 0, .int .i64 0], #[.int .i64 0, .int .u32 0, .int .u32 0, .int .i64 0]⟩) (List.mem_cons_of_mem _ List.mem_cons_self) (by kernel_rfl) (fun _ => rfl) rfl (fun s => by kernel_rfl) (fun s w => ?_)
      go_simp
      try rfl
    · refine ObOp.stores (gok13 S w B Mm.new Mm.new) (x := ⟨9, 11, 29, #[.int .u32 0, .int .u32 0, .int .u32 0, .int .u32 0, .int .u32 0, .int .u32 0, .int .u32 0, .int .u32 0, .int .u32 0, .bool false, .bool false, .bool false, .bool false, .bool false, .bool false, .bool false, .int .u64 0], stA gT⟩) List.mem_cons_self (by kernel_rfl) (fun s => by kernel_rfl) rfl (by kernel_rfl) (fun s D w K hD hb hk => ?_)
      exact wp_store_row _ _ _ rfl (s 9) (stA gT) rfl rfl (29) (#[.int .u32 0, .int .u32 0, .int .u32 0, .int .u32 0, .int .u32 0, .int .u32 0, .int .u32 0, .int .u32 0, .int .u32 0, .bool false, .bool false, .bool false, .bool false, .bool false, .bool false, .bool false, .int .u64 0]) hb.h (by kernel_rfl) (by kernel_rfl) (by first | exact stA_all _ | simp [Value.oneCell']) hk
    · refine ObOp.stores (gok13 S w B Mm.new Mm.new) (x := ⟨10, 12, 42, #[.int .i64 0, .int .u32 0, .int .u32 0, .int .i64 0], #[.int .i64 0, .int .u32 0, .int .u32 0, .int .i64 0]⟩) (List.mem_cons_of_mem _ List.mem_cons_self) (by kernel_rfl) (fun s => by kernel_rfl) rfl (by kernel_rfl) (fun s D w K hD hb hk => ?_)
      exact wp_store_row _ _ _ rfl (s 10) (#[.int .i64 0, .int .u32 0, .int .u32 0, .int .i64 0]) rfl rfl (42) (#[.int .i64 0, .int .u32 0, .int .u32 0, .int .i64 0]) hb.h (by kernel_rfl) (by kernel_rfl) (by first | exact stA_all _ | simp [Value.oneCell']) hk
    · refine ObOp.val (fun s => .bool true) (by kernel_rfl) (fun _ => rfl) (fun s => by kernel_rfl) (fun s D w hd hcl h => ?_)
      go_simp
      try rfl
  have z0 := h.box (x := ⟨9, 11, 29, #[.int .u32 0, .int .u32 0, .int .u32 0, .int .u32 0, .int .u32 0, .int .u32 0, .int .u32 0, .int .u32 0, .int .u32 0, .bool false, .bool false, .bool false, .bool false, .bool false, .bool false, .bool false, .int .u64 0], stA gT⟩) List.mem_cons_self rfl
  replace kk := Lib.hid (show ∀ x ∈ (s 9, 29, stA gT) :: [(S, 29, stA g1)], Blk Wq x.1 x.2.1 x.2.2 from List.forall_mem_cons.2 ⟨z0.1, h.k⟩)
  replace ol := Lib.hid (show ∀ y ∈ (s 9, 29, stA gT) :: [(S, 29, stA g1)], y.1 ∉ [B] from List.forall_mem_cons.2 ⟨by have z2 : B < s 9 := z0.2.1; simp; omega, ol.out⟩)
  replace p : Pg S w Wq B Mm.new := h.g
  have ndNT := Lib.hid (show ∀ y ∈ [(S, 29, stA g1)], s 9 ≠ y.1 from z0.2.2)
  have loNT := Lib.hid (show B < s 9 from z0.2.1)
  clear h z0
  generalize s 9 = NT at *
  generalize s 10 = XT at *
  clear s Wp
  generalize Wq = Wp at *
  go_upto_region 6 with fail
  refine wp_region_seq (F := ?_) (fun _ _ => False) (fun _ _ _ _ h => h.elim) [some 43, some 44, some 45, some 46, some 47, some 13] [some (.int .u32 a), some (.int .u64 a), some (.int .u32 b), some (.int .u64 b), some (.int .u64 u), some (.int .u64 u)] (RI (fun _ W => Pg S w W B Mm.new) B 6 6 [(NT, 29, stA gT), (S, 29, stA g1)] []) (fun _ => 0) (by kernel_rfl) (fun s => ?_) (RI.start p kk.out _) ?_ (fun s Wq h => ?_)
  rotate_left
  · simp only [vsOf, putD, Act.put, Nat.reduceAdd, List.setIfInBounds_toArray, List.set_cons_zero, List.set_cons_succ]
    rfl
  · refine AllOps.cons ?_ (AllOps.cons ?_ (AllOps.cons ?_ (AllOps.cons ?_ (AllOps.cons ?_ (AllOps.cons ?_ AllOps.nil)))))
    · refine ObOp.val (fun s => .int .u32 a) (by kernel_rfl) (fun _ => rfl) (fun s => by kernel_rfl) (fun s D w hd hcl h => ?_)
      go_simp
      try rfl
    · refine ObOp.val (fun s => .int .u64 a) (by kernel_rfl) (fun _ => rfl) (fun s => by kernel_rfl) (fun s D w hd hcl h => ?_)
      go_simp
      try first | exact wa
    · refine ObOp.val (fun s => .int .u32 b) (by kernel_rfl) (fun _ => rfl) (fun s => by kernel_rfl) (fun s D w hd hcl h => ?_)
      go_simp
      try rfl
    · refine ObOp.val (fun s => .int .u64 b) (by kernel_rfl) (fun _ => rfl) (fun s => by kernel_rfl) (fun s D w hd hcl h => ?_)
      go_simp
      try first | exact wb
    · refine ObOp.val (fun s => .int .u64 u) (by kernel_rfl) (fun _ => rfl) (fun s => by kernel_rfl) (fun s D w hd hcl h => ?_)
      go_simp
      try first | exact hu | exact hu2
    · refine ObOp.val (fun s => .int .u64 u) (by kernel_rfl) (fun _ => rfl) (fun s => by kernel_rfl) (fun s D w hd hcl h => ?_)
      go_simp
      try rfl
  replace kk := Lib.hid (show ∀ x ∈ [(NT, 29, stA gT), (S, 29, stA g1)], Blk Wq x.1 x.2.1 x.2.2 from h.k)
  replace p : Pg S w Wq B Mm.new := h.g
  clear h s Wp
  generalize Wq = Wp at *
  go_upto_region 7 with fail
  refine wp_region_seq (F := ?_) (fun _ _ => False) (fun _ _ _ _ h => h.elim) [some 48, some 49, some 50, some 51, some 52, some 53, some 54, some 55, some 56, some 57, some 58, some 59, some 60, some 61, some 62, some 63] [some (.bool true), some (.bool false), some (.bool false), some (.pointer (some ⟨NT, 0, none⟩)), some (.pointer (some ⟨NT, 2, none⟩)), some (.int .u32 (gT.r 2)), some (.int .u64 (gT.r 2)), some (.int .u64 (gT.r 2 * 4294967296)), some (.pointer (some ⟨NT, 0, none⟩)), some (.pointer (some ⟨NT, 0, none⟩)), some (.int .u32 (gT.r 0)), some (.int .u64 (gT.r 0)), some (.int .u64 u), some (.int .u64 u), some (.bool false), some (.bool false)] (RI (fun _ W => Pg S w W B Mm.new) B 16 16 [(NT, 29, stA gT), (S, 29, stA g1)] []) (fun _ => 0) (by kernel_rfl) (fun s => ?_) (RI.start p kk.out _) ?_ (fun s Wq h => ?_)
  rotate_left
  · simp only [vsOf, putD, Act.put, Nat.reduceAdd, List.setIfInBounds_toArray, List.set_cons_zero, List.set_cons_succ]
    rfl
  · refine AllOps.cons ?_ (AllOps.cons ?_ (AllOps.cons ?_ (AllOps.cons ?_ (AllOps.cons ?_ (AllOps.cons ?_ (AllOps.cons ?_ (AllOps.cons ?_ (AllOps.cons ?_ (AllOps.cons ?_ (AllOps.cons ?_ (AllOps.cons ?_ (AllOps.cons ?_ (AllOps.cons ?_ (AllOps.cons ?_ (AllOps.cons ?_ AllOps.nil)))))))))))))))
    · refine ObOp.val (fun s => .bool true) (by kernel_rfl) (fun _ => rfl) (fun s => by kernel_rfl) (fun s D w hd hcl h => ?_)
      go_simp
      try rfl
    · refine ObOp.val (fun s => .bool false) (by kernel_rfl) (fun _ => rfl) (fun s => by kernel_rfl) (fun s D w hd hcl h => ?_)
      go_simp
      try rfl
    · refine ObOp.val (fun s => .bool false) (by kernel_rfl) (fun _ => rfl) (fun s => by kernel_rfl) (fun s D w hd hcl h => ?_)
      go_simp
      try rfl
    · refine ObOp.val (fun s => .pointer (some ⟨NT, 0, none⟩)) (by kernel_rfl) (fun _ => rfl) (fun s => by kernel_rfl) (fun s D w hd hcl h => ?_)
      go_simp
      try rfl
    · refine ObOp.val (fun s => .pointer (some ⟨NT, 2, none⟩)) (by kernel_rfl) (fun _ => rfl) (fun s => by kernel_rfl) (fun s D w hd hcl h => ?_)
      go_simp
      try rfl
    · refine ObOp.val (fun s => .int .u32 (gT.r 2)) (by kernel_rfl) (fun _ => rfl) (fun s => by kernel_rfl) (fun s D w hd hcl h => ?_)
      have c := (h.k _ List.mem_cons_self).cell (i := 2) (v := .int .u32 (gT.r 2)) rfl
      go_simp
      try rfl
    · refine ObOp.val (fun s => .int .u64 (gT.r 2)) (by kernel_rfl) (fun _ => rfl) (fun s => by kernel_rfl) (fun s D w hd hcl h => ?_)
      go_simp
      try first | exact wt2
    · refine ObOp.val (fun s => .int .u64 (gT.r 2 * 4294967296)) (by kernel_rfl) (fun _ => rfl) (fun s => by kernel_rfl) (fun s D w hd hcl h => ?_)
      go_simp
      try first | exact hshl | exact hshl2
    · refine ObOp.val (fun s => .pointer (some ⟨NT, 0, none⟩)) (by kernel_rfl) (fun _ => rfl) (fun s => by kernel_rfl) (fun s D w hd hcl h => ?_)
      go_simp
      try rfl
    · refine ObOp.val (fun s => .pointer (some ⟨NT, 0, none⟩)) (by kernel_rfl) (fun _ => rfl) (fun s => by kernel_rfl) (fun s D w hd hcl h => ?_)
      go_simp
      try rfl
    · refine ObOp.val (fun s => .int .u32 (gT.r 0)) (by kernel_rfl) (fun _ => rfl) (fun s => by kernel_rfl) (fun s D w hd hcl h => ?_)
      have c := (h.k _ List.mem_cons_self).cell (i := 0) (v := .int .u32 (gT.r 0)) rfl
      go_simp
      try rfl
    · refine ObOp.val (fun s => .int .u64 (gT.r 0)) (by kernel_rfl) (fun _ => rfl) (fun s => by kernel_rfl) (fun s D w hd hcl h => ?_)
      go_simp
      try first | exact wt0
    · refine ObOp.val (fun s => .int .u64 u) (by kernel_rfl) (fun _ => rfl) (fun s => by kernel_rfl) (fun s D w hd hcl h => ?_)
      go_simp
      try first | exact hor
    · refine ObOp.val (fun s => .int .u64 u) (by kernel_rfl) (fun _ => rfl) (fun s => by kernel_rfl) (fun s D w hd hcl h => ?_)
      go_simp
      try rfl
    · refine ObOp.val (fun s => .bool false) (by kernel_rfl) (fun _ => rfl) (fun s => by kernel_rfl) (fun s D w hd hcl h => ?_)
      go_simp
      try rfl
    · refine ObOp.val (fun s => .bool false) (by kernel_rfl) (fun _ => rfl) (fun s => by kernel_rfl) (fun s D w hd hcl h => ?_)
      go_simp
      try rfl
  replace kk := Lib.hid (show ∀ x ∈ [(NT, 29, stA gT), (S, 29, stA g1)], Blk Wq x.1 x.2.1 x.2.2 from h.k)
  replace p : Pg S w Wq B Mm.new := h.g
  clear h s Wp
  generalize Wq = Wp at *
  go_upto_region 9 with fail
  by_cases hb0 : b = 0
  · replace hZ := hZ.out hb0
    have eb : (b == 0) = true := by rw [hb0]; rfl
    clear hV hW0 hrem wq hVa hVr hVf hWc hGN hT ndNT loNT
    go_upto_region 10 with fail
    refine wp_region_inv (F := ?_) (fun _ _ => False) (fun _ _ _ _ h => h.elim) [some 67, some 68, some 69, some 70, some 71, some 66, some 72, some 73, some 74, some 14, some 15, none, none, some 16] [some (mp B), some (stV gT), some (opV ⟨1, 3, 0, 0, 0, 0⟩), some (inV (iDv)), some (.tuple #[stV gT, fltV 2 gT.pc 0 0, .bool false]), some (.tuple #[stV gT, fltV 2 gT.pc 0 0, .bool false]), some (stV gT), some (fltV 2 gT.pc 0 0), some (.bool false), none, none, some undef, some undef, some (.bool false)] (RI (fun k W => Pg S w W B (bif k then Mm.new else Mm.new)) B 4 14 [(NT, 29, stA gT), (S, 29, stA g1)] [⟨9, 11, 29, #[.int .u32 0, .int .u32 0, .int .u32 0, .int .u32 0, .int .u32 0, .int .u32 0, .int .u32 0, .int .u32 0, .int .u32 0, .bool false, .bool false, .bool false, .bool false, .bool false, .bool false, .bool false, .int .u64 0], stA gT⟩, ⟨10, 12, 42, #[.int .i64 0, .int .u32 0, .int .u32 0, .int .i64 0], #[.int .i64 2, .int .u32 gT.pc, .int .u32 0, .int .i64 0]⟩]) (fun _ => 0) (by kernel_rfl) (by kernel_rfl) (fun s => ?_) (RI.start p.drew (fun x hx => (kk.out x hx).drew) _) ?_ (fun s Wq h => ?_)
    rotate_left
    · simp only [vsOf, putD, Act.put, Nat.reduceAdd, List.setIfInBounds_toArray, List.set_cons_zero, List.set_cons_succ]
      rfl
    · refine AllOps.cons ?_ (AllOps.cons ?_ (AllOps.cons ?_ (AllOps.cons ?_ (AllOps.cons ?_ (AllOps.cons ?_ (AllOps.cons ?_ (AllOps.cons ?_ (AllOps.cons ?_ (AllOps.cons ?_ (AllOps.cons ?_ (AllOps.cons ?_ (AllOps.cons ?_ (AllOps.cons ?_ AllOps.nil)))))))))))))
      · refine ObOp.val (fun s => mp B) (by kernel_rfl) (fun _ => rfl) (fun s => by kernel_rfl) (fun s D w hd hcl h => ?_)
        go_simp
        try rfl
      · refine ObOp.val (fun s => stV gT) (by kernel_rfl) (fun _ => rfl) (fun s => by kernel_rfl) (fun s D w hd hcl h => ?_)
        exact run_load_row (by rfl) (by rfl) 29 _ (0, 0) _ (h.k _ List.mem_cons_self).h Tryz.underlying29 rfl szS
      · refine ObOp.calls (gok13 S w B Mm.new Mm.new) (fun s => opV ⟨1, 3, 0, 0, 0, 0⟩) (35) (fun s => #[.int .i64 3]) (by kernel_rfl) (fun _ => rfl) (fun s => by kernel_rfl) (fun s D w ha h => ?_) (fun s D w hd hcl h => ?_)
        · go_simp
          try rfl
        · exact reg13 3 _
      · refine ObOp.val (fun s => inV (iDv)) (by kernel_rfl) (fun _ => rfl) (fun s => by kernel_rfl) (fun s D w hd hcl h => ?_)
        go_simp
        exact ⟨rfl, rfl, rfl, rfl, rfl, rfl, rfl, rfl, rfl, rfl, rfl, rfl, rfl, rfl, rfl, rfl⟩
      · refine ObOp.guest (Sx := [B]) (fun k hk => by simp at hk; omega) (fun s => .tuple #[stV gT, fltV 2 gT.pc 0 0, .bool false]) (19) (fun s => #[mp B, stV gT, inV (iDv)]) (by kernel_rfl) ol.out (fun _ => rfl) (fun s => by kernel_rfl) (fun s D w ha h => ?_) (fun s w hg => ?_)
        · go_simp
          try rfl
        · exact hZ.out.pg T0.out hS0 hg
      · refine ObOp.val (fun s => .tuple #[stV gT, fltV 2 gT.pc 0 0, .bool false]) (by kernel_rfl) (fun _ => rfl) (fun s => by kernel_rfl) (fun s D w hd hcl h => ?_)
        go_simp
        try rfl
      · refine ObOp.val (fun s => stV gT) (by kernel_rfl) (fun _ => rfl) (fun s => by kernel_rfl) (fun s D w hd hcl h => ?_)
        go_simp
        try rfl
      · refine ObOp.val (fun s => fltV 2 gT.pc 0 0) (by kernel_rfl) (fun _ => rfl) (fun s => by kernel_rfl) (fun s D w hd hcl h => ?_)
        go_simp
        try rfl
      · refine ObOp.val (fun s => .bool false) (by kernel_rfl) (fun _ => rfl) (fun s => by kernel_rfl) (fun s D w hd hcl h => ?_)
        go_simp
        try rfl
      · refine ObOp.alloc (gok13 S w B Mm.new Mm.new) (x := ⟨9, 11, 29, #[.int .u32 0, .int .u32 0, .int .u32 0, .int .u32 0, .int .u32 0, .int .u32 0, .int .u32 0, .int .u32 0, .int .u32 0, .bool false, .bool false, .bool false, .bool false, .bool false, .bool false, .bool false, .int .u64 0], stA gT⟩) List.mem_cons_self (by kernel_rfl) (fun _ => rfl) rfl (fun s => by kernel_rfl) (fun s w => ?_)
        go_simp
        try rfl
      · refine ObOp.alloc (gok13 S w B Mm.new Mm.new) (x := ⟨10, 12, 42, #[.int .i64 0, .int .u32 0, .int .u32 0, .int .i64 0], #[.int .i64 2, .int .u32 gT.pc, .int .u32 0, .int .i64 0]⟩) (List.mem_cons_of_mem _ List.mem_cons_self) (by kernel_rfl) (fun _ => rfl) rfl (fun s => by kernel_rfl) (fun s w => ?_)
        go_simp
        try rfl
      · refine ObOp.stores (gok13 S w B Mm.new Mm.new) (x := ⟨9, 11, 29, #[.int .u32 0, .int .u32 0, .int .u32 0, .int .u32 0, .int .u32 0, .int .u32 0, .int .u32 0, .int .u32 0, .int .u32 0, .bool false, .bool false, .bool false, .bool false, .bool false, .bool false, .bool false, .int .u64 0], stA gT⟩) List.mem_cons_self (by kernel_rfl) (fun s => by kernel_rfl) rfl (by kernel_rfl) (fun s D w K hD hb hk => ?_)
        exact wp_store_row _ _ _ rfl (s 9) (stA gT) rfl rfl (29) (#[.int .u32 0, .int .u32 0, .int .u32 0, .int .u32 0, .int .u32 0, .int .u32 0, .int .u32 0, .int .u32 0, .int .u32 0, .bool false, .bool false, .bool false, .bool false, .bool false, .bool false, .bool false, .int .u64 0]) hb.h (by kernel_rfl) (by kernel_rfl) (by first | exact stA_all _ | simp [Value.oneCell']) hk
      · refine ObOp.stores (gok13 S w B Mm.new Mm.new) (x := ⟨10, 12, 42, #[.int .i64 0, .int .u32 0, .int .u32 0, .int .i64 0], #[.int .i64 2, .int .u32 gT.pc, .int .u32 0, .int .i64 0]⟩) (List.mem_cons_of_mem _ List.mem_cons_self) (by kernel_rfl) (fun s => by kernel_rfl) rfl (by kernel_rfl) (fun s D w K hD hb hk => ?_)
        exact wp_store_row _ _ _ rfl (s 10) (#[.int .i64 2, .int .u32 gT.pc, .int .u32 0, .int .i64 0]) rfl rfl (42) (#[.int .i64 0, .int .u32 0, .int .u32 0, .int .i64 0]) hb.h (by kernel_rfl) (by kernel_rfl) (by first | exact stA_all _ | simp [Value.oneCell']) hk
      · refine ObOp.val (fun s => .bool false) (by kernel_rfl) (fun _ => rfl) (fun s => by kernel_rfl) (fun s D w hd hcl h => ?_)
        go_simp
        try rfl
    have z1 := h.box (x := ⟨10, 12, 42, #[.int .i64 0, .int .u32 0, .int .u32 0, .int .i64 0], #[.int .i64 2, .int .u32 gT.pc, .int .u32 0, .int .i64 0]⟩) (List.mem_cons_of_mem _ List.mem_cons_self) rfl
    have z0 := h.box (x := ⟨9, 11, 29, #[.int .u32 0, .int .u32 0, .int .u32 0, .int .u32 0, .int .u32 0, .int .u32 0, .int .u32 0, .int .u32 0, .int .u32 0, .bool false, .bool false, .bool false, .bool false, .bool false, .bool false, .bool false, .int .u64 0], stA gT⟩) List.mem_cons_self rfl
    replace kk := Lib.hid (show ∀ x ∈ (s 9, 29, stA gT) :: (s 10, 42, #[.int .i64 2, .int .u32 gT.pc, .int .u32 0, .int .i64 0]) :: [(NT, 29, stA gT), (S, 29, stA g1)], Blk Wq x.1 x.2.1 x.2.2 from List.forall_mem_cons.2 ⟨z0.1, List.forall_mem_cons.2 ⟨z1.1, h.k⟩⟩)
    replace ol := Lib.hid (show ∀ y ∈ (s 9, 29, stA gT) :: (s 10, 42, #[.int .i64 2, .int .u32 gT.pc, .int .u32 0, .int .i64 0]) :: [(NT, 29, stA gT), (S, 29, stA g1)], y.1 ∉ [B] from List.forall_mem_cons.2 ⟨by have z2 : B < s 9 := z0.2.1; simp; omega, List.forall_mem_cons.2 ⟨by have z2 : B < s 10 := z1.2.1; simp; omega, ol.out⟩⟩)
    replace p : Pg S w Wq B Mm.new := h.g
    clear h z0 z1
    generalize s 9 = NZ at *
    generalize s 10 = XZ at *
    clear s Wp
    generalize Wq = Wp at *
    go_upto_region 11 with fail
    refine wp_region_seq (F := ?_) (fun _ _ => False) (fun _ _ _ _ h => h.elim) [some 75, some 76, some 77, some 78, some 79, some 80, some 81, some 82, some 83, some 84, some 85, some 86, some 87, some 88, some 8] [some (.bool false), some (.bool true), some (.bool true), some (.agg #[.int .i64 2, .int .u32 gT.pc, .int .u32 0, .int .i64 0]), some (.pointer (some ⟨NT, 8, none⟩)), some (.int .u32 gT.pc), some (.agg #[.int .i64 2, .int .u32 gT.pc, .int .u32 0, .int .i64 0]), some (.bool true), some (.bool true), some (.bool true), some (stV gT), some (stV gT), some (.bool true), some (.bool true), some (.bool true)] (RI (fun _ W => Pg S w W B Mm.new) B 15 15 [(NZ, 29, stA gT), (XZ, 42, #[.int .i64 2, .int .u32 gT.pc, .int .u32 0, .int .i64 0]), (NT, 29, stA gT), (S, 29, stA g1)] []) (fun _ => 0) (by kernel_rfl) (fun s => ?_) (RI.start p kk.out _) ?_ (fun s Wq h => ?_)
    rotate_left
    · simp only [vsOf, putD, Act.put, Nat.reduceAdd, List.setIfInBounds_toArray, List.set_cons_zero, List.set_cons_succ]
      rfl
    · refine AllOps.cons ?_ (AllOps.cons ?_ (AllOps.cons ?_ (AllOps.cons ?_ (AllOps.cons ?_ (AllOps.cons ?_ (AllOps.cons ?_ (AllOps.cons ?_ (AllOps.cons ?_ (AllOps.cons ?_ (AllOps.cons ?_ (AllOps.cons ?_ (AllOps.cons ?_ (AllOps.cons ?_ (AllOps.cons ?_ AllOps.nil))))))))))))))
      · refine ObOp.val (fun s => .bool false) (by kernel_rfl) (fun _ => rfl) (fun s => by kernel_rfl) (fun s D w hd hcl h => ?_)
        go_simp
        try rfl
      · refine ObOp.val (fun s => .bool true) (by kernel_rfl) (fun _ => rfl) (fun s => by kernel_rfl) (fun s D w hd hcl h => ?_)
        go_simp
        try rfl
      · refine ObOp.val (fun s => .bool true) (by kernel_rfl) (fun _ => rfl) (fun s => by kernel_rfl) (fun s D w hd hcl h => ?_)
        go_simp
        try rfl
      · refine ObOp.val (fun s => .agg #[.int .i64 2, .int .u32 gT.pc, .int .u32 0, .int .i64 0]) (by kernel_rfl) (fun _ => rfl) (fun s => by kernel_rfl) (fun s D w hd hcl h => ?_)
        exact run_load_row (by rfl) (by rfl) 42 _ (0, 0) _ (h.k _ (List.mem_cons_of_mem _ List.mem_cons_self)).h Tryz.underlying42 rfl (by kernel_rfl)
      · refine ObOp.val (fun s => .pointer (some ⟨NT, 8, none⟩)) (by kernel_rfl) (fun _ => rfl) (fun s => by kernel_rfl) (fun s D w hd hcl h => ?_)
        go_simp
        try rfl
      · refine ObOp.val (fun s => .int .u32 gT.pc) (by kernel_rfl) (fun _ => rfl) (fun s => by kernel_rfl) (fun s D w hd hcl h => ?_)
        have c := (h.k _ (List.mem_cons_of_mem _ (List.mem_cons_of_mem _ List.mem_cons_self))).cell (i := 8) (v := .int .u32 gT.pc) rfl
        go_simp
        try rfl
      · refine ObOp.val (fun s => .agg #[.int .i64 2, .int .u32 gT.pc, .int .u32 0, .int .i64 0]) (by kernel_rfl) (fun _ => rfl) (fun s => by kernel_rfl) (fun s D w hd hcl h => ?_)
        go_simp
        try exact ⟨rfl, rfl, rfl, rfl⟩
      · refine ObOp.val (fun s => .bool true) (by kernel_rfl) (fun _ => rfl) (fun s => by kernel_rfl) (fun s D w hd hcl h => ?_)
        go_simp
        try rfl
      · refine ObOp.val (fun s => .bool true) (by kernel_rfl) (fun _ => rfl) (fun s => by kernel_rfl) (fun s D w hd hcl h => ?_)
        go_simp
        try rfl
      · refine ObOp.val (fun s => .bool true) (by kernel_rfl) (fun _ => rfl) (fun s => by kernel_rfl) (fun s D w hd hcl h => ?_)
        go_simp
        try rfl
      · refine ObOp.val (fun s => stV gT) (by kernel_rfl) (fun _ => rfl) (fun s => by kernel_rfl) (fun s D w hd hcl h => ?_)
        exact run_load_row (by rfl) (by rfl) 29 _ (0, 0) _ (h.k _ List.mem_cons_self).h Tryz.underlying29 rfl szS
      · refine ObOp.val (fun s => stV gT) (by kernel_rfl) (fun _ => rfl) (fun s => by kernel_rfl) (fun s D w hd hcl h => ?_)
        exact run_load_row (by rfl) (by rfl) 29 _ (0, 0) _ (h.k _ (List.mem_cons_of_mem _ (List.mem_cons_of_mem _ List.mem_cons_self))).h Tryz.underlying29 rfl szS
      · refine ObOp.val (fun s => .bool true) (by kernel_rfl) (fun _ => rfl) (fun s => by kernel_rfl) (fun s D w hd hcl h => ?_)
        exact run_eqS (by rfl) gT rfl rfl
      · refine ObOp.val (fun s => .bool true) (by kernel_rfl) (fun _ => rfl) (fun s => by kernel_rfl) (fun s D w hd hcl h => ?_)
        go_simp
        try rfl
      · refine ObOp.val (fun s => .bool true) (by kernel_rfl) (fun _ => rfl) (fun s => by kernel_rfl) (fun s D w hd hcl h => ?_)
        go_simp
        try rfl
    go_wp2_with fail
    exact bodyPost_ret (v := .bool true) (by simp [results, Tryz.results12, go_sem]) rfl ⟨rfl, by rw [hS0]; exact h.g.done⟩
  · replace hV := hV.out hb0
    replace hW0 := hW0.out hb0
    replace hrem := hrem.out hb0
    replace wq := wq.out hb0
    replace hVa := hVa.out hb0
    replace hVr := hVr.out hb0
    replace hVf := hVf.out hb0
    replace hWc := hWc.out hb0
    have eb : (b == 0) = false := by simpa using hb0
    clear hZ hT
    go_upto_region 12 with fail
    refine wp_region_seq (F := ?_) (fun _ _ => False) (fun _ _ _ _ h => h.elim) [some 89, some 90, some 91, some 17] [some (.int .u32 r), some (.int .u32 b), some (.int .u32 q), some (.int .u32 q)] (RI (fun _ W => Pg S w W B Mm.new) B 4 4 [(NT, 29, stA gT), (S, 29, stA g1)] []) (fun _ => 0) (by kernel_rfl) (fun s => ?_) (RI.start p kk.out _) ?_ (fun s Wq h => ?_)
    rotate_left
    · simp only [vsOf, putD, Act.put, Nat.reduceAdd, List.setIfInBounds_toArray, List.set_cons_zero, List.set_cons_succ]
      rfl
    · refine AllOps.cons ?_ (AllOps.cons ?_ (AllOps.cons ?_ (AllOps.cons ?_ AllOps.nil)))
      · refine ObOp.val (fun s => .int .u32 r) (by kernel_rfl) (fun _ => rfl) (fun s => by kernel_rfl) (fun s D w hd hcl h => ?_)
        go_simp
        try rfl
      · refine ObOp.val (fun s => .int .u32 b) (by kernel_rfl) (fun _ => rfl) (fun s => by kernel_rfl) (fun s D w hd hcl h => ?_)
        go_simp
        try rfl
      · refine ObOp.val (fun s => .int .u32 q) (by kernel_rfl) (fun _ => rfl) (fun s => by kernel_rfl) (fun s D w hd hcl h => ?_)
        go_simp
        try first | exact hrem
      · refine ObOp.val (fun s => .int .u32 q) (by kernel_rfl) (fun _ => rfl) (fun s => by kernel_rfl) (fun s D w hd hcl h => ?_)
        go_simp
        try rfl
    replace kk := Lib.hid (show ∀ x ∈ [(NT, 29, stA gT), (S, 29, stA g1)], Blk Wq x.1 x.2.1 x.2.2 from h.k)
    replace p : Pg S w Wq B Mm.new := h.g
    clear h s Wp
    generalize Wq = Wp at *
    go_upto_region 13 with fail
    refine wp_region_seq (F := ?_) (fun _ _ => False) (fun _ _ _ _ h => h.elim) [some 92, some 93, some 94, some 95, some 18] [some (.int .u64 u), some (.int .u32 q), some (.int .u64 q), some (.int .u64 n), some (.int .u64 n)] (RI (fun _ W => Pg S w W B Mm.new) B 5 5 [(NT, 29, stA gT), (S, 29, stA g1)] []) (fun _ => 0) (by kernel_rfl) (fun s => ?_) (RI.start p kk.out _) ?_ (fun s Wq h => ?_)
    rotate_left
    · simp only [vsOf, putD, Act.put, Nat.reduceAdd, List.setIfInBounds_toArray, List.set_cons_zero, List.set_cons_succ]
      rfl
    · refine AllOps.cons ?_ (AllOps.cons ?_ (AllOps.cons ?_ (AllOps.cons ?_ (AllOps.cons ?_ AllOps.nil))))
      · refine ObOp.val (fun s => .int .u64 u) (by kernel_rfl) (fun _ => rfl) (fun s => by kernel_rfl) (fun s D w hd hcl h => ?_)
        go_simp
        try rfl
      · refine ObOp.val (fun s => .int .u32 q) (by kernel_rfl) (fun _ => rfl) (fun s => by kernel_rfl) (fun s D w hd hcl h => ?_)
        go_simp
        try rfl
      · refine ObOp.val (fun s => .int .u64 q) (by kernel_rfl) (fun _ => rfl) (fun s => by kernel_rfl) (fun s D w hd hcl h => ?_)
        go_simp
        try first | exact wq
      · refine ObOp.val (fun s => .int .u64 n) (by kernel_rfl) (fun _ => rfl) (fun s => by kernel_rfl) (fun s D w hd hcl h => ?_)
        go_simp
        try first | exact hn | exact hn2
      · refine ObOp.val (fun s => .int .u64 n) (by kernel_rfl) (fun _ => rfl) (fun s => by kernel_rfl) (fun s D w hd hcl h => ?_)
        go_simp
        try rfl
    replace kk := Lib.hid (show ∀ x ∈ [(NT, 29, stA gT), (S, 29, stA g1)], Blk Wq x.1 x.2.1 x.2.2 from h.k)
    replace p : Pg S w Wq B Mm.new := h.g
    clear h s Wp
    generalize Wq = Wp at *
    have kW := kk.out _ List.mem_cons_self
    have cW0 := kW.cell (i := 0) (v := .int .u32 (gT.r 0)) rfl
    have fW0 := kW.fr 0
    have cW2 := kW.cell (i := 2) (v := .int .u32 (gT.r 2)) rfl
    have fW2 := kW.fr 2
    have hW : ((stA gT).setIfInBounds 0 (.int .u32 n0)).setIfInBounds 2 (.int .u32 n2) = stA gN := by rw [setrA gT 0 (by decide), setrA _ 2 (by decide), hGN.out]
    go_upto_region 15 with fail
    clear cW0 fW0 cW2 fW2
    have kW2 := ((kW.set 0 (.int .u32 n0)).set 2 (.int .u32 n2))
    rw [hW] at kW2
    replace p := p.store ((But.refl [NT] Wp.heap.size Wp).setCell (p := ⟨NT, 0, none⟩) (by simp) (.int .u32 n0)) loNT.out
    replace p := p.store ((But.refl [NT] (Wp.setCell ⟨NT, 0, none⟩ (.int .u32 n0)).heap.size (Wp.setCell ⟨NT, 0, none⟩ (.int .u32 n0))).setCell (p := ⟨NT, 2, none⟩) (by simp) (.int .u32 n2)) loNT.out
    replace kk := Lib.hid (show ∀ x ∈ (NT, 29, stA gN) :: [(S, 29, stA g1)], Blk ((Wp.setCell ⟨NT, 0, none⟩ (.int .u32 n0)).setCell ⟨NT, 2, none⟩ (.int .u32 n2)) x.1 x.2.1 x.2.2 from List.forall_mem_cons.2 ⟨kW2, fun x hx => (((kk.out x (List.mem_cons_of_mem _ hx)).other 0 (.int .u32 n0) (Ne.symm (ndNT.out x hx))).other 2 (.int .u32 n2) (Ne.symm (ndNT.out x hx)))⟩)
    replace ol := Lib.hid (show ∀ y ∈ (NT, 29, stA gN) :: [(S, 29, stA g1)], y.1 ∉ [B] from List.forall_mem_cons.2 ⟨(show NT ∉ [B] from ol.out (NT, 29, stA gT) List.mem_cons_self), fun y hy => ol.out y (List.mem_cons_of_mem _ hy)⟩)
    clear kW kW2 hW
    generalize ((Wp.setCell ⟨NT, 0, none⟩ (.int .u32 n0)).setCell ⟨NT, 2, none⟩ (.int .u32 n2)) = Wp at *
    refine wp_region_inv (F := ?_) (fun _ _ => False) (fun _ _ _ _ h => h.elim) [some 106, some 107, some 108, some 109, some 110, some 105, some 111, some 112, some 113, some 19, some 20, none, none, some 21] [some (mp B), some (stV gN), some (opV ⟨1, 3, 0, 0, 0, 0⟩), some (inV (iDv)), some (.tuple #[stV gV, fltV 0 0 0 0, .bool true]), some (.tuple #[stV gV, fltV 0 0 0 0, .bool true]), some (stV gV), some (fltV 0 0 0 0), some (.bool true), none, none, some undef, some undef, some (.bool true)] (RI (fun k W => Pg S w W B (bif k then Mm.new else Mm.new)) B 4 14 [(NT, 29, stA gN), (S, 29, stA g1)] [⟨9, 11, 29, #[.int .u32 0, .int .u32 0, .int .u32 0, .int .u32 0, .int .u32 0, .int .u32 0, .int .u32 0, .int .u32 0, .int .u32 0, .bool false, .bool false, .bool false, .bool false, .bool false, .bool false, .bool false, .int .u64 0], stA gV⟩, ⟨10, 12, 42, #[.int .i64 0, .int .u32 0, .int .u32 0, .int .i64 0], #[.int .i64 0, .int .u32 0, .int .u32 0, .int .i64 0]⟩]) (fun _ => 0) (by kernel_rfl) (by kernel_rfl) (fun s => ?_) (RI.start p.drew (fun x hx => (kk.out x hx).drew) _) ?_ (fun s Wq h => ?_)
    rotate_left
    · simp only [vsOf, putD, Act.put, Nat.reduceAdd, List.setIfInBounds_toArray, List.set_cons_zero, List.set_cons_succ]
      rfl
    · refine AllOps.cons ?_ (AllOps.cons ?_ (AllOps.cons ?_ (AllOps.cons ?_ (AllOps.cons ?_ (AllOps.cons ?_ (AllOps.cons ?_ (AllOps.cons ?_ (AllOps.cons ?_ (AllOps.cons ?_ (AllOps.cons ?_ (AllOps.cons ?_ (AllOps.cons ?_ (AllOps.cons ?_ AllOps.nil)))))))))))))
      · refine ObOp.val (fun s => mp B) (by kernel_rfl) (fun _ => rfl) (fun s => by kernel_rfl) (fun s D w hd hcl h => ?_)
        go_simp
        try rfl
      · refine ObOp.val (fun s => stV gN) (by kernel_rfl) (fun _ => rfl) (fun s => by kernel_rfl) (fun s D w hd hcl h => ?_)
        exact run_load_row (by rfl) (by rfl) 29 _ (0, 0) _ (h.k _ List.mem_cons_self).h Tryz.underlying29 rfl szS
      · refine ObOp.calls (gok13 S w B Mm.new Mm.new) (fun s => opV ⟨1, 3, 0, 0, 0, 0⟩) (35) (fun s => #[.int .i64 3]) (by kernel_rfl) (fun _ => rfl) (fun s => by kernel_rfl) (fun s D w ha h => ?_) (fun s D w hd hcl h => ?_)
        · go_simp
          try rfl
        · exact reg13 3 _
      · refine ObOp.val (fun s => inV (iDv)) (by kernel_rfl) (fun _ => rfl) (fun s => by kernel_rfl) (fun s D w hd hcl h => ?_)
        go_simp
        exact ⟨rfl, rfl, rfl, rfl, rfl, rfl, rfl, rfl, rfl, rfl, rfl, rfl, rfl, rfl, rfl, rfl⟩
      · refine ObOp.guest (Sx := [B]) (fun k hk => by simp at hk; omega) (fun s => .tuple #[stV gV, fltV 0 0 0 0, .bool true]) (19) (fun s => #[mp B, stV gN, inV (iDv)]) (by kernel_rfl) ol.out (fun _ => rfl) (fun s => by kernel_rfl) (fun s D w ha h => ?_) (fun s w hg => ?_)
        · go_simp
          try rfl
        · exact hV.out.pg T0.out hS0 new_okM hg
      · refine ObOp.val (fun s => .tuple #[stV gV, fltV 0 0 0 0, .bool true]) (by kernel_rfl) (fun _ => rfl) (fun s => by kernel_rfl) (fun s D w hd hcl h => ?_)
        go_simp
        try rfl
      · refine ObOp.val (fun s => stV gV) (by kernel_rfl) (fun _ => rfl) (fun s => by kernel_rfl) (fun s D w hd hcl h => ?_)
        go_simp
        try rfl
      · refine ObOp.val (fun s => fltV 0 0 0 0) (by kernel_rfl) (fun _ => rfl) (fun s => by kernel_rfl) (fun s D w hd hcl h => ?_)
        go_simp
        try rfl
      · refine ObOp.val (fun s => .bool true) (by kernel_rfl) (fun _ => rfl) (fun s => by kernel_rfl) (fun s D w hd hcl h => ?_)
        go_simp
        try rfl
      · refine ObOp.alloc (gok13 S w B Mm.new Mm.new) (x := ⟨9, 11, 29, #[.int .u32 0, .int .u32 0, .int .u32 0, .int .u32 0, .int .u32 0, .int .u32 0, .int .u32 0, .int .u32 0, .int .u32 0, .bool false, .bool false, .bool false, .bool false, .bool false, .bool false, .bool false, .int .u64 0], stA gV⟩) List.mem_cons_self (by kernel_rfl) (fun _ => rfl) rfl (fun s => by kernel_rfl) (fun s w => ?_)
        go_simp
        try rfl
      · refine ObOp.alloc (gok13 S w B Mm.new Mm.new) (x := ⟨10, 12, 42, #[.int .i64 0, .int .u32 0, .int .u32 0, .int .i64 0], #[.int .i64 0, .int .u32 0, .int .u32 0, .int .i64 0]⟩) (List.mem_cons_of_mem _ List.mem_cons_self) (by kernel_rfl) (fun _ => rfl) rfl (fun s => by kernel_rfl) (fun s w => ?_)
        go_simp
        try rfl
      · refine ObOp.stores (gok13 S w B Mm.new Mm.new) (x := ⟨9, 11, 29, #[.int .u32 0, .int .u32 0, .int .u32 0, .int .u32 0, .int .u32 0, .int .u32 0, .int .u32 0, .int .u32 0, .int .u32 0, .bool false, .bool false, .bool false, .bool false, .bool false, .bool false, .bool false, .int .u64 0], stA gV⟩) List.mem_cons_self (by kernel_rfl) (fun s => by kernel_rfl) rfl (by kernel_rfl) (fun s D w K hD hb hk => ?_)
        exact wp_store_row _ _ _ rfl (s 9) (stA gV) rfl rfl (29) (#[.int .u32 0, .int .u32 0, .int .u32 0, .int .u32 0, .int .u32 0, .int .u32 0, .int .u32 0, .int .u32 0, .int .u32 0, .bool false, .bool false, .bool false, .bool false, .bool false, .bool false, .bool false, .int .u64 0]) hb.h (by kernel_rfl) (by kernel_rfl) (by first | exact stA_all _ | simp [Value.oneCell']) hk
      · refine ObOp.stores (gok13 S w B Mm.new Mm.new) (x := ⟨10, 12, 42, #[.int .i64 0, .int .u32 0, .int .u32 0, .int .i64 0], #[.int .i64 0, .int .u32 0, .int .u32 0, .int .i64 0]⟩) (List.mem_cons_of_mem _ List.mem_cons_self) (by kernel_rfl) (fun s => by kernel_rfl) rfl (by kernel_rfl) (fun s D w K hD hb hk => ?_)
        exact wp_store_row _ _ _ rfl (s 10) (#[.int .i64 0, .int .u32 0, .int .u32 0, .int .i64 0]) rfl rfl (42) (#[.int .i64 0, .int .u32 0, .int .u32 0, .int .i64 0]) hb.h (by kernel_rfl) (by kernel_rfl) (by first | exact stA_all _ | simp [Value.oneCell']) hk
      · refine ObOp.val (fun s => .bool true) (by kernel_rfl) (fun _ => rfl) (fun s => by kernel_rfl) (fun s D w hd hcl h => ?_)
        go_simp
        try rfl
    have z0 := h.box (x := ⟨9, 11, 29, #[.int .u32 0, .int .u32 0, .int .u32 0, .int .u32 0, .int .u32 0, .int .u32 0, .int .u32 0, .int .u32 0, .int .u32 0, .bool false, .bool false, .bool false, .bool false, .bool false, .bool false, .bool false, .int .u64 0], stA gV⟩) List.mem_cons_self rfl
    replace kk := Lib.hid (show ∀ x ∈ (s 9, 29, stA gV) :: [(NT, 29, stA gN), (S, 29, stA g1)], Blk Wq x.1 x.2.1 x.2.2 from List.forall_mem_cons.2 ⟨z0.1, h.k⟩)
    replace ol := Lib.hid (show ∀ y ∈ (s 9, 29, stA gV) :: [(NT, 29, stA gN), (S, 29, stA g1)], y.1 ∉ [B] from List.forall_mem_cons.2 ⟨by have z2 : B < s 9 := z0.2.1; simp; omega, ol.out⟩)
    replace p : Pg S w Wq B Mm.new := h.g
    clear h z0
    generalize s 9 = NV at *
    generalize s 10 = XV at *
    clear s Wp
    generalize Wq = Wp at *
    go_upto_region 16 with fail
    refine wp_region_seq (F := ?_) (fun _ _ => False) (fun _ _ _ _ h => h.elim) [some 115, some 116, some 117, some 118, some 114, some 119, some 120, some 121, some 22, some 23, none, none, some 24] [some (mp B), some (stV gV), some (inV (iCd)), some (.tuple #[stV gW, fltV 0 0 0 0, .bool true]), some (.tuple #[stV gW, fltV 0 0 0 0, .bool true]), some (stV gW), some (fltV 0 0 0 0), some (.bool true), none, none, some undef, some undef, some (.bool true)] (RI (fun k W => Pg S w W B (bif k then Mm.new else Mm.new)) B 3 13 [(NV, 29, stA gV), (NT, 29, stA gN), (S, 29, stA g1)] [⟨8, 10, 29, #[.int .u32 0, .int .u32 0, .int .u32 0, .int .u32 0, .int .u32 0, .int .u32 0, .int .u32 0, .int .u32 0, .int .u32 0, .bool false, .bool false, .bool false, .bool false, .bool false, .bool false, .bool false, .int .u64 0], stA gW⟩, ⟨9, 11, 42, #[.int .i64 0, .int .u32 0, .int .u32 0, .int .i64 0], #[.int .i64 0, .int .u32 0, .int .u32 0, .int .i64 0]⟩]) (fun _ => 0) (by kernel_rfl) (fun s => ?_) (RI.start p kk.out _) ?_ (fun s Wq h => ?_)
    rotate_left
    · simp only [vsOf, putD, Act.put, Nat.reduceAdd, List.setIfInBounds_toArray, List.set_cons_zero, List.set_cons_succ]
      rfl
    · refine AllOps.cons ?_ (AllOps.cons ?_ (AllOps.cons ?_ (AllOps.cons ?_ (AllOps.cons ?_ (AllOps.cons ?_ (AllOps.cons ?_ (AllOps.cons ?_ (AllOps.cons ?_ (AllOps.cons ?_ (AllOps.cons ?_ (AllOps.cons ?_ (AllOps.cons ?_ AllOps.nil))))))))))))
      · refine ObOp.val (fun s => mp B) (by kernel_rfl) (fun _ => rfl) (fun s => by kernel_rfl) (fun s D w hd hcl h => ?_)
        go_simp
        try rfl
      · refine ObOp.val (fun s => stV gV) (by kernel_rfl) (fun _ => rfl) (fun s => by kernel_rfl) (fun s D w hd hcl h => ?_)
        exact run_load_row (by rfl) (by rfl) 29 _ (0, 0) _ (h.k _ List.mem_cons_self).h Tryz.underlying29 rfl szS
      · refine ObOp.val (fun s => inV (iCd)) (by kernel_rfl) (fun _ => rfl) (fun s => by kernel_rfl) (fun s D w hd hcl h => ?_)
        go_simp
        exact ⟨rfl, rfl, rfl, rfl, rfl, rfl, rfl, rfl, rfl, rfl, rfl, rfl, rfl, rfl, rfl, rfl⟩
      · refine ObOp.guest (Sx := [B]) (fun k hk => by simp at hk; omega) (fun s => .tuple #[stV gW, fltV 0 0 0 0, .bool true]) (19) (fun s => #[mp B, stV gV, inV (iCd)]) (by kernel_rfl) ol.out (fun _ => rfl) (fun s => by kernel_rfl) (fun s D w ha h => ?_) (fun s w hg => ?_)
        · go_simp
          try rfl
        · exact hW0.out.pg T0.out hS0 new_okM hg
      · refine ObOp.val (fun s => .tuple #[stV gW, fltV 0 0 0 0, .bool true]) (by kernel_rfl) (fun _ => rfl) (fun s => by kernel_rfl) (fun s D w hd hcl h => ?_)
        go_simp
        try rfl
      · refine ObOp.val (fun s => stV gW) (by kernel_rfl) (fun _ => rfl) (fun s => by kernel_rfl) (fun s D w hd hcl h => ?_)
        go_simp
        try rfl
      · refine ObOp.val (fun s => fltV 0 0 0 0) (by kernel_rfl) (fun _ => rfl) (fun s => by kernel_rfl) (fun s D w hd hcl h => ?_)
        go_simp
        try rfl
      · refine ObOp.val (fun s => .bool true) (by kernel_rfl) (fun _ => rfl) (fun s => by kernel_rfl) (fun s D w hd hcl h => ?_)
        go_simp
        try rfl
      · refine ObOp.alloc (gok13 S w B Mm.new Mm.new) (x := ⟨8, 10, 29, #[.int .u32 0, .int .u32 0, .int .u32 0, .int .u32 0, .int .u32 0, .int .u32 0, .int .u32 0, .int .u32 0, .int .u32 0, .bool false, .bool false, .bool false, .bool false, .bool false, .bool false, .bool false, .int .u64 0], stA gW⟩) List.mem_cons_self (by kernel_rfl) (fun _ => rfl) rfl (fun s => by kernel_rfl) (fun s w => ?_)
        go_simp
        try rfl
      · refine ObOp.alloc (gok13 S w B Mm.new Mm.new) (x := ⟨9, 11, 42, #[.int .i64 0, .int .u32 0, .int .u32 0, .int .i64 0], #[.int .i64 0, .int .u32 0, .int .u32 0, .int .i64 0]⟩) (List.mem_cons_of_mem _ List.mem_cons_self) (by kernel_rfl) (fun _ => rfl) rfl (fun s => by kernel_rfl) (fun s w => ?_)
        go_simp
        try rfl
      · refine ObOp.stores (gok13 S w B Mm.new Mm.new) (x := ⟨8, 10, 29, #[.int .u32 0, .int .u32 0, .int .u32 0, .int .u32 0, .int .u32 0, .int .u32 0, .int .u32 0, .int .u32 0, .int .u32 0, .bool false, .bool false, .bool false, .bool false, .bool false, .bool false, .bool false, .int .u64 0], stA gW⟩) List.mem_cons_self (by kernel_rfl) (fun s => by kernel_rfl) rfl (by kernel_rfl) (fun s D w K hD hb hk => ?_)
        exact wp_store_row _ _ _ rfl (s 8) (stA gW) rfl rfl (29) (#[.int .u32 0, .int .u32 0, .int .u32 0, .int .u32 0, .int .u32 0, .int .u32 0, .int .u32 0, .int .u32 0, .int .u32 0, .bool false, .bool false, .bool false, .bool false, .bool false, .bool false, .bool false, .int .u64 0]) hb.h (by kernel_rfl) (by kernel_rfl) (by first | exact stA_all _ | simp [Value.oneCell']) hk
      · refine ObOp.stores (gok13 S w B Mm.new Mm.new) (x := ⟨9, 11, 42, #[.int .i64 0, .int .u32 0, .int .u32 0, .int .i64 0], #[.int .i64 0, .int .u32 0, .int .u32 0, .int .i64 0]⟩) (List.mem_cons_of_mem _ List.mem_cons_self) (by kernel_rfl) (fun s => by kernel_rfl) rfl (by kernel_rfl) (fun s D w K hD hb hk => ?_)
        exact wp_store_row _ _ _ rfl (s 9) (#[.int .i64 0, .int .u32 0, .int .u32 0, .int .i64 0]) rfl rfl (42) (#[.int .i64 0, .int .u32 0, .int .u32 0, .int .i64 0]) hb.h (by kernel_rfl) (by kernel_rfl) (by first | exact stA_all _ | simp [Value.oneCell']) hk
      · refine ObOp.val (fun s => .bool true) (by kernel_rfl) (fun _ => rfl) (fun s => by kernel_rfl) (fun s D w hd hcl h => ?_)
        go_simp
        try rfl
    have z0 := h.box (x := ⟨8, 10, 29, #[.int .u32 0, .int .u32 0, .int .u32 0, .int .u32 0, .int .u32 0, .int .u32 0, .int .u32 0, .int .u32 0, .int .u32 0, .bool false, .bool false, .bool false, .bool false, .bool false, .bool false, .bool false, .int .u64 0], stA gW⟩) List.mem_cons_self rfl
    replace kk := Lib.hid (show ∀ x ∈ (s 8, 29, stA gW) :: [(NV, 29, stA gV), (NT, 29, stA gN), (S, 29, stA g1)], Blk Wq x.1 x.2.1 x.2.2 from List.forall_mem_cons.2 ⟨z0.1, h.k⟩)
    replace ol := Lib.hid (show ∀ y ∈ (s 8, 29, stA gW) :: [(NV, 29, stA gV), (NT, 29, stA gN), (S, 29, stA g1)], y.1 ∉ [B] from List.forall_mem_cons.2 ⟨by have z2 : B < s 8 := z0.2.1; simp; omega, ol.out⟩)
    replace p : Pg S w Wq B Mm.new := h.g
    clear h z0
    generalize s 8 = NW at *
    generalize s 9 = XW at *
    clear s Wp
    generalize Wq = Wp at *
    go_upto_region 17 with fail
    refine wp_region_seq (F := ?_) (fun _ _ => False) (fun _ _ _ _ h => h.elim) [some 122, some 123, some 124, some 125, some 126, some 127, some 128, some 129, some 130, some 131, some 132, some 133, some 134, some 135, some 136, some 137, some 138, some 139, some 140, some 141, some 142, some 143, some 144, some 145, some 146, some 147, some 148, some 149, some 150, some 151, some 152, some 153, some 154, some 155, some 156, some 8] [some (.bool true), some (.bool true), some (.pointer (some ⟨NV, 0, none⟩)), some (.pointer (some ⟨NV, 0, none⟩)), some (.int .u32 (gV.r 0)), some (.int .u32 a), some (.bool true), some (.bool true), some (.bool true), some (.pointer (some ⟨NV, 0, none⟩)), some (.pointer (some ⟨NV, 2, none⟩)), some (.int .u32 (gV.r 2)), some (.int .u32 q), some (.bool true), some (.bool true), some (.bool true), some (.pointer (some ⟨NV, 9, none⟩)), some (.agg #[.bool (gV.f 0), .bool (gV.f 1), .bool (gV.f 2), .bool (gV.f 3), .bool (gV.f 4), .bool (gV.f 5)]), some (.pointer (some ⟨NT, 9, none⟩)), some (.agg #[.bool (gN.f 0), .bool (gN.f 1), .bool (gN.f 2), .bool (gN.f 3), .bool (gN.f 4), .bool (gN.f 5)]), some (.bool true), some (.bool true), some (.bool true), some (.bool true), some (.bool true), some (.bool true), some (.pointer (some ⟨NW, 0, none⟩)), some (.pointer (some ⟨NW, 2, none⟩)), some (.int .u32 (gW.r 2)), some (.int .u32 a), some (.int .i32 (IntKind.i32.wrap a)), some (.int .i32 (IntKind.i32.wrap a / 2147483648)), some (.int .u32 c), some (.bool true), some (.bool true), some (.bool true)] (RI (fun _ W => Pg S w W B Mm.new) B 36 36 [(NW, 29, stA gW), (NV, 29, stA gV), (NT, 29, stA gN), (S, 29, stA g1)] []) (fun _ => 0) (by kernel_rfl) (fun s => ?_) (RI.start p kk.out _) ?_ (fun s Wq h => ?_)
    rotate_left
    · simp only [vsOf, putD, Act.put, Nat.reduceAdd, List.setIfInBounds_toArray, List.set_cons_zero, List.set_cons_succ]
      rfl
    · refine AllOps.cons ?_ (AllOps.cons ?_ (AllOps.cons ?_ (AllOps.cons ?_ (AllOps.cons ?_ (AllOps.cons ?_ (AllOps.cons ?_ (AllOps.cons ?_ (AllOps.cons ?_ (AllOps.cons ?_ (AllOps.cons ?_ (AllOps.cons ?_ (AllOps.cons ?_ (AllOps.cons ?_ (AllOps.cons ?_ (AllOps.cons ?_ (AllOps.cons ?_ (AllOps.cons ?_ (AllOps.cons ?_ (AllOps.cons ?_ (AllOps.cons ?_ (AllOps.cons ?_ (AllOps.cons ?_ (AllOps.cons ?_ (AllOps.cons ?_ (AllOps.cons ?_ (AllOps.cons ?_ (AllOps.cons ?_ (AllOps.cons ?_ (AllOps.cons ?_ (AllOps.cons ?_ (AllOps.cons ?_ (AllOps.cons ?_ (AllOps.cons ?_ (AllOps.cons ?_ (AllOps.cons ?_ AllOps.nil)))))))))))))))))))))))))))))))))))
      · refine ObOp.val (fun s => .bool true) (by kernel_rfl) (fun _ => rfl) (fun s => by kernel_rfl) (fun s D w hd hcl h => ?_)
        go_simp
        try rfl
      · refine ObOp.val (fun s => .bool true) (by kernel_rfl) (fun _ => rfl) (fun s => by kernel_rfl) (fun s D w hd hcl h => ?_)
        go_simp
        try rfl
      · refine ObOp.val (fun s => .pointer (some ⟨NV, 0, none⟩)) (by kernel_rfl) (fun _ => rfl) (fun s => by kernel_rfl) (fun s D w hd hcl h => ?_)
        go_simp
        try rfl
      · refine ObOp.val (fun s => .pointer (some ⟨NV, 0, none⟩)) (by kernel_rfl) (fun _ => rfl) (fun s => by kernel_rfl) (fun s D w hd hcl h => ?_)
        go_simp
        try rfl
      · refine ObOp.val (fun s => .int .u32 (gV.r 0)) (by kernel_rfl) (fun _ => rfl) (fun s => by kernel_rfl) (fun s D w hd hcl h => ?_)
        have c := (h.k _ (List.mem_cons_of_mem _ List.mem_cons_self)).cell (i := 0) (v := .int .u32 (gV.r 0)) rfl
        go_simp
        try rfl
      · refine ObOp.val (fun s => .int .u32 a) (by kernel_rfl) (fun _ => rfl) (fun s => by kernel_rfl) (fun s D w hd hcl h => ?_)
        go_simp
        try rfl
      · refine ObOp.val (fun s => .bool true) (by kernel_rfl) (fun _ => rfl) (fun s => by kernel_rfl) (fun s D w hd hcl h => ?_)
        go_simp
        try first | exact hVa
      · refine ObOp.val (fun s => .bool true) (by kernel_rfl) (fun _ => rfl) (fun s => by kernel_rfl) (fun s D w hd hcl h => ?_)
        go_simp
        try rfl
      · refine ObOp.val (fun s => .bool true) (by kernel_rfl) (fun _ => rfl) (fun s => by kernel_rfl) (fun s D w hd hcl h => ?_)
        go_simp
        try rfl
      · refine ObOp.val (fun s => .pointer (some ⟨NV, 0, none⟩)) (by kernel_rfl) (fun _ => rfl) (fun s => by kernel_rfl) (fun s D w hd hcl h => ?_)
        go_simp
        try rfl
      · refine ObOp.val (fun s => .pointer (some ⟨NV, 2, none⟩)) (by kernel_rfl) (fun _ => rfl) (fun s => by kernel_rfl) (fun s D w hd hcl h => ?_)
        go_simp
        try rfl
      · refine ObOp.val (fun s => .int .u32 (gV.r 2)) (by kernel_rfl) (fun _ => rfl) (fun s => by kernel_rfl) (fun s D w hd hcl h => ?_)
        have c := (h.k _ (List.mem_cons_of_mem _ List.mem_cons_self)).cell (i := 2) (v := .int .u32 (gV.r 2)) rfl
        go_simp
        try rfl
      · refine ObOp.val (fun s => .int .u32 q) (by kernel_rfl) (fun _ => rfl) (fun s => by kernel_rfl) (fun s D w hd hcl h => ?_)
        go_simp
        try rfl
      · refine ObOp.val (fun s => .bool true) (by kernel_rfl) (fun _ => rfl) (fun s => by kernel_rfl) (fun s D w hd hcl h => ?_)
        go_simp
        try first | exact hVr
      · refine ObOp.val (fun s => .bool true) (by kernel_rfl) (fun _ => rfl) (fun s => by kernel_rfl) (fun s D w hd hcl h => ?_)
        go_simp
        try rfl
      · refine ObOp.val (fun s => .bool true) (by kernel_rfl) (fun _ => rfl) (fun s => by kernel_rfl) (fun s D w hd hcl h => ?_)
        go_simp
        try rfl
      · refine ObOp.val (fun s => .pointer (some ⟨NV, 9, none⟩)) (by kernel_rfl) (fun _ => rfl) (fun s => by kernel_rfl) (fun s D w hd hcl h => ?_)
        go_simp
        try rfl
      · refine ObOp.val (fun s => .agg #[.bool (gV.f 0), .bool (gV.f 1), .bool (gV.f 2), .bool (gV.f 3), .bool (gV.f 4), .bool (gV.f 5)]) (by kernel_rfl) (fun _ => rfl) (fun s => by kernel_rfl) (fun s D w hd hcl h => ?_)
        exact run_load_mid (by rfl) (by rfl) _ _ (Blk.rangeF (h.k _ (List.mem_cons_of_mem _ List.mem_cons_self))) Tryz.underlying26 rfl (by kernel_rfl)
      · refine ObOp.val (fun s => .pointer (some ⟨NT, 9, none⟩)) (by kernel_rfl) (fun _ => rfl) (fun s => by kernel_rfl) (fun s D w hd hcl h => ?_)
        go_simp
        try rfl
      · refine ObOp.val (fun s => .agg #[.bool (gN.f 0), .bool (gN.f 1), .bool (gN.f 2), .bool (gN.f 3), .bool (gN.f 4), .bool (gN.f 5)]) (by kernel_rfl) (fun _ => rfl) (fun s => by kernel_rfl) (fun s D w hd hcl h => ?_)
        exact run_load_mid (by rfl) (by rfl) _ _ (Blk.rangeF (h.k _ (List.mem_cons_of_mem _ (List.mem_cons_of_mem _ List.mem_cons_self)))) Tryz.underlying26 rfl (by kernel_rfl)
      · refine ObOp.val (fun s => .bool true) (by kernel_rfl) (fun _ => rfl) (fun s => by kernel_rfl) (fun s D w hd hcl h => ?_)
        go_simp
        try rfl
      · refine ObOp.val (fun s => .bool true) (by kernel_rfl) (fun _ => rfl) (fun s => by kernel_rfl) (fun s D w hd hcl h => ?_)
        go_simp
        try rfl
      · refine ObOp.val (fun s => .bool true) (by kernel_rfl) (fun _ => rfl) (fun s => by kernel_rfl) (fun s D w hd hcl h => ?_)
        go_simp
        try rfl
      · refine ObOp.val (fun s => .bool true) (by kernel_rfl) (fun _ => rfl) (fun s => by kernel_rfl) (fun s D w hd hcl h => ?_)
        go_simp
        try rfl
      · refine ObOp.val (fun s => .bool true) (by kernel_rfl) (fun _ => rfl) (fun s => by kernel_rfl) (fun s D w hd hcl h => ?_)
        go_simp
        try rfl
      · refine ObOp.val (fun s => .bool true) (by kernel_rfl) (fun _ => rfl) (fun s => by kernel_rfl) (fun s D w hd hcl h => ?_)
        go_simp
        try rfl
      · refine ObOp.val (fun s => .pointer (some ⟨NW, 0, none⟩)) (by kernel_rfl) (fun _ => rfl) (fun s => by kernel_rfl) (fun s D w hd hcl h => ?_)
        go_simp
        try rfl
      · refine ObOp.val (fun s => .pointer (some ⟨NW, 2, none⟩)) (by kernel_rfl) (fun _ => rfl) (fun s => by kernel_rfl) (fun s D w hd hcl h => ?_)
        go_simp
        try rfl
      · refine ObOp.val (fun s => .int .u32 (gW.r 2)) (by kernel_rfl) (fun _ => rfl) (fun s => by kernel_rfl) (fun s D w hd hcl h => ?_)
        have c := (h.k _ List.mem_cons_self).cell (i := 2) (v := .int .u32 (gW.r 2)) rfl
        go_simp
        try rfl
      · refine ObOp.val (fun s => .int .u32 a) (by kernel_rfl) (fun _ => rfl) (fun s => by kernel_rfl) (fun s D w hd hcl h => ?_)
        go_simp
        try rfl
      · refine ObOp.val (fun s => .int .i32 (IntKind.i32.wrap a)) (by kernel_rfl) (fun _ => rfl) (fun s => by kernel_rfl) (fun s D w hd hcl h => ?_)
        go_simp
        try rfl
      · refine ObOp.val (fun s => .int .i32 (IntKind.i32.wrap a / 2147483648)) (by kernel_rfl) (fun _ => rfl) (fun s => by kernel_rfl) (fun s D w hd hcl h => ?_)
        go_simp
        try rfl
      · refine ObOp.val (fun s => .int .u32 c) (by kernel_rfl) (fun _ => rfl) (fun s => by kernel_rfl) (fun s D w hd hcl h => ?_)
        go_simp
        try first | exact hc
      · refine ObOp.val (fun s => .bool true) (by kernel_rfl) (fun _ => rfl) (fun s => by kernel_rfl) (fun s D w hd hcl h => ?_)
        go_simp
        try first | exact hWc
      · refine ObOp.val (fun s => .bool true) (by kernel_rfl) (fun _ => rfl) (fun s => by kernel_rfl) (fun s D w hd hcl h => ?_)
        go_simp
        try rfl
      · refine ObOp.val (fun s => .bool true) (by kernel_rfl) (fun _ => rfl) (fun s => by kernel_rfl) (fun s D w hd hcl h => ?_)
        go_simp
        try rfl
    go_wp2_with fail
    exact bodyPost_ret (v := .bool true) (by simp [results, Tryz.results12, go_sem]) rfl ⟨rfl, by rw [hS0]; exact h.g.done⟩
end Go.Proofs.YtcdoidnfdkodoaaGreatDoor
