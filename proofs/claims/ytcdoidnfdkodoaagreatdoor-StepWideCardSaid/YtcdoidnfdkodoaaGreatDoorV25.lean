import Derived.Test.YtcdoidnfdkodoaaGreatDoorS50
namespace Go.Proofs.YtcdoidnfdkodoaaGreatDoor
open Go.RowKit
set_option linter.unusedVariables false
set_option linter.unusedSimpArgs false
set_option linter.unusedSectionVars false
theorem kp_map13 {n0 : Nat} {w0 w : World} {B : Nat} {m : Mm} (p : Pg n0 w0 w B m) (a n v : Int) (ha : I64 a) (he : mapE m a n v = true) : Calls Tryz.prog 29 #[mp B, .int .i64 a, .int .i64 n, .int .i64 v] w fun e w' => e = .returned (.int .i64 0) ∧ Pg n0 w0 w' B (mapS m a n v) ∧ But [B] w.heap.size w w' := by
  have q := pMap p a n v ha
  rw [he] at q
  exact q
def mS : Mm := mapS Mm.new 0 4 7
theorem mS_ok : mS.ok := mapS_ok new_okM _ _ _
theorem mS_map : mapE Mm.new 0 4 7 = true := by kernel_rfl
theorem setrA (g : Gs) (k : Nat) (hk : k < 8) (v : Int) : (stA g).setIfInBounds k (.int .u32 v) = stA (setr g k v) := by
  rcases (by omega : k = 0 ∨ k = 1 ∨ k = 2 ∨ k = 3 ∨ k = 4 ∨ k = 5 ∨ k = 6 ∨ k = 7) with rfl | rfl | rfl | rfl | rfl | rfl | rfl | rfl <;> kernel_rfl
theorem setpcA (g : Gs) (v : Int) : (stA g).setIfInBounds 8 (.int .u32 v) = stA { g with pc := v } := by kernel_rfl
theorem ix_r8 (b k : Nat) (h : k < 8) (W : World) : (Instr.indexAt 24 (.pointer (some ⟨b, 0, none⟩)) (.int .i64 (k : Int))).run Tryz.prog W = .ok (.pointer (some ⟨b, k, none⟩)) W := by
  have s1 : ∀ W, (sizeOf 23).run Tryz.prog W = .ok 1 W := fun W => by kernel_rfl
  have hj : (k : Int) < 8 := by omega
  simp [Instr.indexAt, run_underlying Tryz.underlying24, s1, go_sem, hj, h, Instr.sureAddr]
set_option maxRecDepth 100000 in
set_option maxHeartbeats 8000000 in
theorem stack_four (g : Gs) (n q : Int) (hn : 0 ≤ n ∧ n ≤ 255) (wq : 0 ≤ q ∧ q ≤ 255) (j k : Nat) (hk : k < 8) (hj : j < 8) (ek : q % 8 = k) (ej : q / 8 % 8 = j) (h4 : k = 4 ∨ j = 4) (w : World) (tabs : Tb w) :
    Calls Tryz.prog 6 #[stV g, .int .u8 n, .int .u8 q] w fun e w' => e = .returned (.bool true) ∧ Below w.heap.size w w' := by
  have b0 := (Below.refl w.heap.size w).alloc (Nat.le_refl _) (.cells (stA g) 29)
  have kS := Blk.new w 29 (stA g)
  have hK := Lib.hid (fun W (t : Tb W) => known13 W t)
  have hNew := Lib.hid (fun W => pNew W)
  have T0 := Lib.hid tabs
  have e0 : Int.tmod q 8 = k := by rw [Int.tmod_eq_emod_of_nonneg wq.1]; exact ek
  have e1 : Int.tdiv q 8 = q / 8 := Int.tdiv_eq_ediv_of_nonneg wq.1
  have e2 : Int.tmod (q / 8) 8 = j := by rw [Int.tmod_eq_emod_of_nonneg (by omega)]; exact ej
  have e3 : (600 + n) % 4294967296 = 600 + n := by omega
  clear tabs
  go_enter Tryz.func6, Tryz.ntmps6
  go_upto_region 1 with fail
  generalize w.alloc (.cells (stA g) 29) = W0 at *
  go_upto_region 3 with (first | ((with_reducible refine (hK.out _ (T0.out.below b0)).mono ?_); rintro e W1 ⟨rfl, b1⟩))
  replace kS := kS.below b1 kS.lt
  replace b1 := b0.trans (b1.mono b0.size)
  go_upto_region 4 with (first | ((with_reducible refine (hNew.out _).mono ?_); rintro e W2 ⟨rfl, p2⟩))
  have nB := Lib.hid (show w.heap.size < W1.heap.size from kS.lt)
  replace kS := kS.below p2.done kS.lt
  replace p2 : Pg w.heap.size w W2 W1.heap.size Mm.new := ⟨p2.h, p2.ok, (But.of b1 _).trans (p2.k.mono b1.size (by simp)), b1.size⟩
  generalize W1.heap.size = B at *
  clear b0 b1
  have q2 := Lib.hid (kp_map13 p2 0 4 7 (by decide) mS_map)
  go_upto_region 6 with (first | ((with_reducible refine q2.out.mono ?_); rintro e w3 ⟨rfl, p3, b3⟩))
  replace kS := kS.but b3 kS.lt (by have := nB.out; simp; omega)
  replace p3 : Pg w.heap.size w w3 B mS := p3
  clear p2 q2 b3
  have c4 := kS.cell (i := 4) (v := .int .u32 (g.r 4)) rfl
  have f4 := kS.fr 4
  have bs := (But.refl [w.heap.size] w3.heap.size w3).setCell (p := ⟨w.heap.size, 4, none⟩) (by simp) (.int .u32 (600 + n))
  have p4 : Pg w.heap.size w (w3.setCell ⟨w.heap.size, 4, none⟩ (.int .u32 (600 + n))) B mS := ⟨p3.h.but bs p3.h.lt (by have := nB.out; simp; omega), p3.ok, p3.k.trans (bs.mono p3.sz (fun x hx => .inr (by simp at hx; omega))), p3.l⟩
  replace kS := kS.set 4 (.int .u32 (600 + n))
  rw [setrA g 4 (by decide)] at kS
  go_upto_region 7 with fail
  clear c4 f4 bs
  generalize w3.setCell ⟨w.heap.size, 4, none⟩ (.int .u32 (600 + n)) = w4 at *
  have c8 := kS.cell (i := 8) (v := .int .u32 (setr g 4 (600 + n)).pc) rfl
  have f8 := kS.fr 8
  have bs := (But.refl [w.heap.size] w4.heap.size w4).setCell (p := ⟨w.heap.size, 8, none⟩) (by simp) (.int .u32 16)
  have p5 : Pg w.heap.size w (w4.setCell ⟨w.heap.size, 8, none⟩ (.int .u32 16)) B mS := ⟨p4.h.but bs p4.h.lt (by have := nB.out; simp; omega), p4.ok, p4.k.trans (bs.mono p4.sz (fun x hx => .inr (by simp at hx; omega))), p4.l⟩
  replace kS := kS.set 8 (.int .u32 16)
  rw [setpcA] at kS
  have done5 := Lib.hid p5.done
  by_cases k4 : k = 4
  · have e4 : ((k : Int) == 4) = true := by rw [k4]; rfl
    go_wp2_with fail
    exact bodyPost_ret (v := .bool true) (by simp [results, Tryz.results6, go_sem]) rfl ⟨rfl, done5.out⟩
  · have e4 : ((k : Int) == 4) = false := by simpa using (by omega : ¬ (k : Int) = 4)
    have e5 : ((j : Int) == 4) = true := by rw [h4.resolve_left k4]; rfl
    go_wp2_with fail
    exact bodyPost_ret (v := .bool true) (by simp [results, Tryz.results6, go_sem]) rfl ⟨rfl, done5.out⟩
set_option maxRecDepth 100000 in
set_option maxHeartbeats 8000000 in
theorem stack_walk (g : Gs) (n q : Int) (hn : 0 ≤ n ∧ n ≤ 255) (wq : 0 ≤ q ∧ q ≤ 255) (j k : Nat) (hk : k < 8) (hj : j < 8) (ek : q % 8 = k) (ej : q / 8 % 8 = j) (k4 : k ≠ 4) (j4 : j ≠ 4) (gA gB gC gD g1 : Gs) (hg1 : g1 = { setr g 4 (600 + n) with pc := 16 }) (m1 m2 : Mm) (ok1 : m1.ok) (ok2 : m2.ok)
    (hA : Hid (DoR mS g1 (iPsh k) gA m1)) (hB : Hid (DoR m1 gA (iPop j) gB m1)) (hC : Hid (DoR m1 g1 iCal gC m2)) (hD : Hid (DoR m2 gC iRet gD m2))
    (hBW : gB = { setr g1 j (g1.r k) with pc := 18 }) (hDV : gD = { g1 with pc := 21 }) (hA4 : gA.r 4 = 596 + n) (hS4 : g1.r 4 = 600 + n) (hC6 : gC.pc = 61) (w : World) (tabs : Tb w) :
    Calls Tryz.prog 6 #[stV g, .int .u8 n, .int .u8 q] w fun e w' => e = .returned (.bool true) ∧ Below w.heap.size w w' := by
  have b0 := (Below.refl w.heap.size w).alloc (Nat.le_refl _) (.cells (stA g) 29)
  have kS := Blk.new w 29 (stA g)
  have hK := Lib.hid (fun W (t : Tb W) => known13 W t)
  have hNew := Lib.hid (fun W => pNew W)
  have T0 := Lib.hid tabs
  replace hBW := Lib.hid hBW
  replace hDV := Lib.hid hDV
  have e0 : Int.tmod q 8 = k := by rw [Int.tmod_eq_emod_of_nonneg wq.1]; exact ek
  have e1 : Int.tdiv q 8 = q / 8 := Int.tdiv_eq_ediv_of_nonneg wq.1
  have e2 : Int.tmod (q / 8) 8 = j := by rw [Int.tmod_eq_emod_of_nonneg (by omega)]; exact ej
  have e3 : (600 + n) % 4294967296 = 600 + n := by omega
  have e4 : ((k : Int) == 4) = false := by simpa using (by omega : ¬ (k : Int) = 4)
  have e5 : ((j : Int) == 4) = false := by simpa using (by omega : ¬ (j : Int) = 4)
  clear tabs
  go_enter Tryz.func6, Tryz.ntmps6
  go_upto_region 1 with fail
  generalize w.alloc (.cells (stA g) 29) = W0 at *
  go_upto_region 3 with (first | ((with_reducible refine (hK.out _ (T0.out.below b0)).mono ?_); rintro e W1 ⟨rfl, b1⟩))
  replace kS := kS.below b1 kS.lt
  replace b1 := b0.trans (b1.mono b0.size)
  go_upto_region 4 with (first | ((with_reducible refine (hNew.out _).mono ?_); rintro e W2 ⟨rfl, p2⟩))
  have nB := Lib.hid (show w.heap.size < W1.heap.size from kS.lt)
  replace kS := kS.below p2.done kS.lt
  replace p2 : Pg w.heap.size w W2 W1.heap.size Mm.new := ⟨p2.h, p2.ok, (But.of b1 _).trans (p2.k.mono b1.size (by simp)), b1.size⟩
  generalize W1.heap.size = B at *
  clear b0 b1
  have q2 := Lib.hid (kp_map13 p2 0 4 7 (by decide) mS_map)
  go_upto_region 6 with (first | ((with_reducible refine q2.out.mono ?_); rintro e w3 ⟨rfl, p3, b3⟩))
  replace kS := kS.but b3 kS.lt (by have := nB.out; simp; omega)
  replace p3 : Pg w.heap.size w w3 B mS := p3
  clear p2 q2 b3
  have c4 := kS.cell (i := 4) (v := .int .u32 (g.r 4)) rfl
  have f4 := kS.fr 4
  have bs := (But.refl [w.heap.size] w3.heap.size w3).setCell (p := ⟨w.heap.size, 4, none⟩) (by simp) (.int .u32 (600 + n))
  have p4 : Pg w.heap.size w (w3.setCell ⟨w.heap.size, 4, none⟩ (.int .u32 (600 + n))) B mS := ⟨p3.h.but bs p3.h.lt (by have := nB.out; simp; omega), p3.ok, p3.k.trans (bs.mono p3.sz (fun x hx => .inr (by simp at hx; omega))), p3.l⟩
  replace kS := kS.set 4 (.int .u32 (600 + n))
  rw [setrA g 4 (by decide)] at kS
  go_upto_region 7 with fail
  clear c4 f4 bs
  generalize w3.setCell ⟨w.heap.size, 4, none⟩ (.int .u32 (600 + n)) = w4 at *
  have c8 := kS.cell (i := 8) (v := .int .u32 (setr g 4 (600 + n)).pc) rfl
  have f8 := kS.fr 8
  have bs := (But.refl [w.heap.size] w4.heap.size w4).setCell (p := ⟨w.heap.size, 8, none⟩) (by simp) (.int .u32 16)
  have p5 : Pg w.heap.size w (w4.setCell ⟨w.heap.size, 8, none⟩ (.int .u32 16)) B mS := ⟨p4.h.but bs p4.h.lt (by have := nB.out; simp; omega), p4.ok, p4.k.trans (bs.mono p4.sz (fun x hx => .inr (by simp at hx; omega))), p4.l⟩
  replace kS := kS.set 8 (.int .u32 16)
  rw [setpcA] at kS
  go_upto_region 11 with fail
  clear c8 f8 bs p3 p4
  generalize w4.setCell ⟨w.heap.size, 8, none⟩ (.int .u32 16) = Wp at *
  rw [← hg1] at kS
  clear hg1
  generalize hS0 : w.heap.size = S at *
  have p := p5
  clear p5 hK hNew e0 e1 e2 e3 e4 e5
  have kk := Lib.hid (show ∀ x ∈ [(S, 29, stA g1)], Blk Wp x.1 x.2.1 x.2.2 from List.forall_mem_cons.2 ⟨kS, fun x hx => by cases hx⟩)
  have ol := Lib.hid (show ∀ y ∈ [(S, 29, stA g1)], y.1 ∉ [B] from List.forall_mem_cons.2 ⟨by have := nB.out; simp; omega, fun x hx => by cases hx⟩)
  clear kS
  refine wp_region_seq (F := ?_) (fun _ _ => False) (fun _ _ _ _ h => h.elim) [some 50, some 51, some 52, some 53, some 54, some 55, some 49, some 56, some 57, some 58, some 10, some 11, none, none, some 12] [some (mp B), some (stV g1), some (.int .i64 k), some (opV ⟨1, k, 0, 0, 0, 0⟩), some (inV (iPsh k)), some (.tuple #[stV gA, fltV 0 0 0 0, .bool true]), some (.tuple #[stV gA, fltV 0 0 0 0, .bool true]), some (stV gA), some (fltV 0 0 0 0), some (.bool true), none, none, some undef, some undef, some (.bool true)] (RI (fun k W => Pg S w W B (bif k then m1 else mS)) B 5 15 [(S, 29, stA g1)] [⟨10, 12, 29, #[.int .u32 0, .int .u32 0, .int .u32 0, .int .u32 0, .int .u32 0, .int .u32 0, .int .u32 0, .int .u32 0, .int .u32 0, .bool false, .bool false, .bool false, .bool false, .bool false, .bool false, .bool false, .int .u64 0], stA gA⟩, ⟨11, 13, 42, #[.int .i64 0, .int .u32 0, .int .u32 0, .int .i64 0], #[.int .i64 0, .int .u32 0, .int .u32 0, .int .i64 0]⟩]) (fun _ => 0) (by kernel_rfl) (fun s => ?_) (RI.start p kk.out _) ?_ (fun s Wq h => ?_)
  rotate_left
  · simp only [vsOf, putD, Act.put, Nat.reduceAdd, List.setIfInBounds_toArray, List.set_cons_zero, List.set_cons_succ]
    rfl
  · refine AllOps.cons ?_ (AllOps.cons ?_ (AllOps.cons ?_ (AllOps.cons ?_ (AllOps.cons ?_ (AllOps.cons ?_ (AllOps.cons ?_ (AllOps.cons ?_ (AllOps.cons ?_ (AllOps.cons ?_ (AllOps.cons ?_ (AllOps.cons ?_ (AllOps.cons ?_ (AllOps.cons ?_ (AllOps.cons ?_ AllOps.nil))))))))))))))
    · refine ObOp.val (fun s => mp B) (by kernel_rfl) (fun _ => rfl) (fun s => by kernel_rfl) (fun s D w hd hcl h => ?_)
      go_simp
      try rfl
    · refine ObOp.val (fun s => stV g1) (by kernel_rfl) (fun _ => rfl) (fun s => by kernel_rfl) (fun s D w hd hcl h => ?_)
      exact run_load_row (by rfl) (by rfl) 29 _ (0, 0) _ (h.k _ List.mem_cons_self).h Tryz.underlying29 rfl szS
    · refine ObOp.val (fun s => .int .i64 k) (by kernel_rfl) (fun _ => rfl) (fun s => by kernel_rfl) (fun s D w hd hcl h => ?_)
      go_simp
      try rfl
    · refine ObOp.val (fun s => opV ⟨1, k, 0, 0, 0, 0⟩) (by kernel_rfl) (fun _ => rfl) (fun s => by kernel_rfl) (fun s D w hd hcl h => ?_)
      go_simp
      try exact ⟨rfl, rfl, rfl, rfl, rfl, rfl⟩
    · refine ObOp.val (fun s => inV (iPsh k)) (by kernel_rfl) (fun _ => rfl) (fun s => by kernel_rfl) (fun s D w hd hcl h => ?_)
      go_simp
      exact ⟨rfl, rfl, rfl, rfl, rfl, rfl, rfl, rfl, rfl, rfl, rfl, rfl, rfl, rfl, rfl, rfl⟩
    · refine ObOp.guest (Sx := [B]) (fun k hk => by simp at hk; omega) (fun s => .tuple #[stV gA, fltV 0 0 0 0, .bool true]) (19) (fun s => #[mp B, stV g1, inV (iPsh k)]) (by kernel_rfl) ol.out (fun _ => rfl) (fun s => by kernel_rfl) (fun s D w ha h => ?_) (fun s w hg => ?_)
      · go_simp
        try rfl
      · exact hA.out.pg T0.out hS0 ok1 hg
    · refine ObOp.val (fun s => .tuple #[stV gA, fltV 0 0 0 0, .bool true]) (by kernel_rfl) (fun _ => rfl) (fun s => by kernel_rfl) (fun s D w hd hcl h => ?_)
      go_simp
      try rfl
    · refine ObOp.val (fun s => stV gA) (by kernel_rfl) (fun _ => rfl) (fun s => by kernel_rfl) (fun s D w hd hcl h => ?_)
      go_simp
      try rfl
    · refine ObOp.val (fun s => fltV 0 0 0 0) (by kernel_rfl) (fun _ => rfl) (fun s => by kernel_rfl) (fun s D w hd hcl h => ?_)
      go_simp
      try rfl
    · refine ObOp.val (fun s => .bool true) (by kernel_rfl) (fun _ => rfl) (fun s => by kernel_rfl) (fun s D w hd hcl h => ?_)
      go_simp
      try rfl
    · refine ObOp.alloc (gok13 S w B mS m1) (x := ⟨10, 12, 29, #[.int .u32 0, .int .u32 0, .int .u32 0, .int .u32 0, .int .u32 0, .int .u32 0, .int .u32 0, .int .u32 0, .int .u32 0, .bool false, .bool false, .bool false, .bool false, .bool false, .bool false, .bool false, .int .u64 0], stA gA⟩) List.mem_cons_self (by kernel_rfl) (fun _ => rfl) rfl (fun s => by kernel_rfl) (fun s w => ?_)
      go_simp
      try rfl
    · refine ObOp.alloc (gok13 S w B mS m1) (x := ⟨11, 13, 42, #[.int .i64 0, .int .u32 0, .int .u32 0, .int .i64 0], #[.int .i64 0, .int .u32 0, .int .u32 0, .int .i64 0]⟩) (List.mem_cons_of_mem _ List.mem_cons_self) (by kernel_rfl) (fun _ => rfl) rfl (fun s => by kernel_rfl) (fun s w => ?_)
      go_simp
      try rfl
    · refine ObOp.stores (gok13 S w B mS m1) (x := ⟨10, 12, 29, #[.int .u32 0, .int .u32 0, .int .u32 0, .int .u32 0, .int .u32 0, .int .u32 0, .int .u32 0, .int .u32 0, .int .u32 0, .bool false, .bool false, .bool false, .bool false, .bool false, .bool false, .bool false, .int .u64 0], stA gA⟩) List.mem_cons_self (by kernel_rfl) (fun s => by kernel_rfl) rfl (by kernel_rfl) (fun s D w K hD hb hk => ?_)
      exact wp_store_row _ _ _ rfl (s 10) (stA gA) rfl rfl (29) (#[.int .u32 0, .int .u32 0, .int .u32 0, .int .u32 0, .int .u32 0, .int .u32 0, .int .u32 0, .int .u32 0, .int .u32 0, .bool false, .bool false, .bool false, .bool false, .bool false, .bool false, .bool false, .int .u64 0]) hb.h (by kernel_rfl) (by kernel_rfl) (by first | exact stA_all _ | simp [Value.oneCell']) hk
    · refine ObOp.stores (gok13 S w B mS m1) (x := ⟨11, 13, 42, #[.int .i64 0, .int .u32 0, .int .u32 0, .int .i64 0], #[.int .i64 0, .int .u32 0, .int .u32 0, .int .i64 0]⟩) (List.mem_cons_of_mem _ List.mem_cons_self) (by kernel_rfl) (fun s => by kernel_rfl) rfl (by kernel_rfl) (fun s D w K hD hb hk => ?_)
      exact wp_store_row _ _ _ rfl (s 11) (#[.int .i64 0, .int .u32 0, .int .u32 0, .int .i64 0]) rfl rfl (42) (#[.int .i64 0, .int .u32 0, .int .u32 0, .int .i64 0]) hb.h (by kernel_rfl) (by kernel_rfl) (by first | exact stA_all _ | simp [Value.oneCell']) hk
    · refine ObOp.val (fun s => .bool true) (by kernel_rfl) (fun _ => rfl) (fun s => by kernel_rfl) (fun s D w hd hcl h => ?_)
      go_simp
      try rfl
  have z0 := h.box (x := ⟨10, 12, 29, #[.int .u32 0, .int .u32 0, .int .u32 0, .int .u32 0, .int .u32 0, .int .u32 0, .int .u32 0, .int .u32 0, .int .u32 0, .bool false, .bool false, .bool false, .bool false, .bool false, .bool false, .bool false, .int .u64 0], stA gA⟩) List.mem_cons_self rfl
  replace kk := Lib.hid (show ∀ x ∈ (s 10, 29, stA gA) :: [(S, 29, stA g1)], Blk Wq x.1 x.2.1 x.2.2 from List.forall_mem_cons.2 ⟨z0.1, h.k⟩)
  replace ol := Lib.hid (show ∀ y ∈ (s 10, 29, stA gA) :: [(S, 29, stA g1)], y.1 ∉ [B] from List.forall_mem_cons.2 ⟨by have z2 : B < s 10 := z0.2.1; simp; omega, ol.out⟩)
  replace p : Pg S w Wq B m1 := h.g
  clear h z0
  generalize s 10 = NA at *
  generalize s 11 = XA at *
  clear s Wp
  generalize Wq = Wp at *
  go_upto_region 12 with fail
  refine wp_region_seq (F := ?_) (fun _ _ => False) (fun _ _ _ _ h => h.elim) [some 60, some 61, some 62, some 63, some 64, some 65, some 59, some 66, some 67, some 68, some 13, some 14, none, none, some 15] [some (mp B), some (stV gA), some (.int .i64 j), some (opV ⟨1, j, 0, 0, 0, 0⟩), some (inV (iPop j)), some (.tuple #[stV gB, fltV 0 0 0 0, .bool true]), some (.tuple #[stV gB, fltV 0 0 0 0, .bool true]), some (stV gB), some (fltV 0 0 0 0), some (.bool true), none, none, some undef, some undef, some (.bool true)] (RI (fun k W => Pg S w W B (bif k then m1 else m1)) B 5 15 [(NA, 29, stA gA), (S, 29, stA g1)] [⟨10, 12, 29, #[.int .u32 0, .int .u32 0, .int .u32 0, .int .u32 0, .int .u32 0, .int .u32 0, .int .u32 0, .int .u32 0, .int .u32 0, .bool false, .bool false, .bool false, .bool false, .bool false, .bool false, .bool false, .int .u64 0], stA gB⟩, ⟨11, 13, 42, #[.int .i64 0, .int .u32 0, .int .u32 0, .int .i64 0], #[.int .i64 0, .int .u32 0, .int .u32 0, .int .i64 0]⟩]) (fun _ => 0) (by kernel_rfl) (fun s => ?_) (RI.start p kk.out _) ?_ (fun s Wq h => ?_)
  rotate_left
  · simp only [vsOf, putD, Act.put, Nat.reduceAdd, List.setIfInBounds_toArray, List.set_cons_zero, List.set_cons_succ]
    rfl
  · refine AllOps.cons ?_ (AllOps.cons ?_ (AllOps.cons ?_ (AllOps.cons ?_ (AllOps.cons ?_ (AllOps.cons ?_ (AllOps.cons ?_ (AllOps.cons ?_ (AllOps.cons ?_ (AllOps.cons ?_ (AllOps.cons ?_ (AllOps.cons ?_ (AllOps.cons ?_ (AllOps.cons ?_ (AllOps.cons ?_ AllOps.nil))))))))))))))
    · refine ObOp.val (fun s => mp B) (by kernel_rfl) (fun _ => rfl) (fun s => by kernel_rfl) (fun s D w hd hcl h => ?_)
      go_simp
      try rfl
    · refine ObOp.val (fun s => stV gA) (by kernel_rfl) (fun _ => rfl) (fun s => by kernel_rfl) (fun s D w hd hcl h => ?_)
      exact run_load_row (by rfl) (by rfl) 29 _ (0, 0) _ (h.k _ List.mem_cons_self).h Tryz.underlying29 rfl szS
    · refine ObOp.val (fun s => .int .i64 j) (by kernel_rfl) (fun _ => rfl) (fun s => by kernel_rfl) (fun s D w hd hcl h => ?_)
      go_simp
      try rfl
    · refine ObOp.val (fun s => opV ⟨1, j, 0, 0, 0, 0⟩) (by kernel_rfl) (fun _ => rfl) (fun s => by kernel_rfl) (fun s D w hd hcl h => ?_)
      go_simp
      try exact ⟨rfl, rfl, rfl, rfl, rfl, rfl⟩
    · refine ObOp.val (fun s => inV (iPop j)) (by kernel_rfl) (fun _ => rfl) (fun s => by kernel_rfl) (fun s D w hd hcl h => ?_)
      go_simp
      exact ⟨rfl, rfl, rfl, rfl, rfl, rfl, rfl, rfl, rfl, rfl, rfl, rfl, rfl, rfl, rfl, rfl⟩
    · refine ObOp.guest (Sx := [B]) (fun k hk => by simp at hk; omega) (fun s => .tuple #[stV gB, fltV 0 0 0 0, .bool true]) (19) (fun s => #[mp B, stV gA, inV (iPop j)]) (by kernel_rfl) ol.out (fun _ => rfl) (fun s => by kernel_rfl) (fun s D w ha h => ?_) (fun s w hg => ?_)
      · go_simp
        try rfl
      · exact hB.out.pg T0.out hS0 ok1 hg
    · refine ObOp.val (fun s => .tuple #[stV gB, fltV 0 0 0 0, .bool true]) (by kernel_rfl) (fun _ => rfl) (fun s => by kernel_rfl) (fun s D w hd hcl h => ?_)
      go_simp
      try rfl
    · refine ObOp.val (fun s => stV gB) (by kernel_rfl) (fun _ => rfl) (fun s => by kernel_rfl) (fun s D w hd hcl h => ?_)
      go_simp
      try rfl
    · refine ObOp.val (fun s => fltV 0 0 0 0) (by kernel_rfl) (fun _ => rfl) (fun s => by kernel_rfl) (fun s D w hd hcl h => ?_)
      go_simp
      try rfl
    · refine ObOp.val (fun s => .bool true) (by kernel_rfl) (fun _ => rfl) (fun s => by kernel_rfl) (fun s D w hd hcl h => ?_)
      go_simp
      try rfl
    · refine ObOp.alloc (gok13 S w B m1 m1) (x := ⟨10, 12, 29, #[.int .u32 0, .int .u32 0, .int .u32 0, .int .u32 0, .int .u32 0, .int .u32 0, .int .u32 0, .int .u32 0, .int .u32 0, .bool false, .bool false, .bool false, .bool false, .bool false, .bool false, .bool false, .int .u64 0], stA gB⟩) List.mem_cons_self (by kernel_rfl) (fun _ => rfl) rfl (fun s => by kernel_rfl) (fun s w => ?_)
      go_simp
      try rfl
    · refine ObOp.alloc (gok13 S w B m1 m1) (x := ⟨11, 13, 42, #[.int .i64 0, .int .u32 0, .int .u32 0, .int .i64 0], #[.int .i64 0, .int .u32 0, .int .u32 0, .int .i64 0]⟩) (List.mem_cons_of_mem _ List.mem_cons_self) (by kernel_rfl) (fun _ => rfl) rfl (fun s => by kernel_rfl) (fun s w => ?_)
      go_simp
      try rfl
    · refine ObOp.stores (gok13 S w B m1 m1) (x := ⟨10, 12, 29, #[.int .u32 0, .int .u32 0, .int .u32 0, .int .u32 0, .int .u32 0, .int .u32 0, .int .u32 0, .int .u32 0, .int .u32 0, .bool false, .bool false, .bool false, .bool false, .bool false, .bool false, .bool false, .int .u64 0], stA gB⟩) List.mem_cons_self (by kernel_rfl) (fun s => by kernel_rfl) rfl (by kernel_rfl) (fun s D w K hD hb hk => ?_)
      exact wp_store_row _ _ _ rfl (s 10) (stA gB) rfl rfl (29) (#[.int .u32 0, .int .u32 0, .int .u32 0, .int .u32 0, .int .u32 0, .int .u32 0, .int .u32 0, .int .u32 0, .int .u32 0, .bool false, .bool false, .bool false, .bool false, .bool false, .bool false, .bool false, .int .u64 0]) hb.h (by kernel_rfl) (by kernel_rfl) (by first | exact stA_all _ | simp [Value.oneCell']) hk
    · refine ObOp.stores (gok13 S w B m1 m1) (x := ⟨11, 13, 42, #[.int .i64 0, .int .u32 0, .int .u32 0, .int .i64 0], #[.int .i64 0, .int .u32 0, .int .u32 0, .int .i64 0]⟩) (List.mem_cons_of_mem _ List.mem_cons_self) (by kernel_rfl) (fun s => by kernel_rfl) rfl (by kernel_rfl) (fun s D w K hD hb hk => ?_)
      exact wp_store_row _ _ _ rfl (s 11) (#[.int .i64 0, .int .u32 0, .int .u32 0, .int .i64 0]) rfl rfl (42) (#[.int .i64 0, .int .u32 0, .int .u32 0, .int .i64 0]) hb.h (by kernel_rfl) (by kernel_rfl) (by first | exact stA_all _ | simp [Value.oneCell']) hk
    · refine ObOp.val (fun s => .bool true) (by kernel_rfl) (fun _ => rfl) (fun s => by kernel_rfl) (fun s D w hd hcl h => ?_)
      go_simp
      try rfl
  have z0 := h.box (x := ⟨10, 12, 29, #[.int .u32 0, .int .u32 0, .int .u32 0, .int .u32 0, .int .u32 0, .int .u32 0, .int .u32 0, .int .u32 0, .int .u32 0, .bool false, .bool false, .bool false, .bool false, .bool false, .bool false, .bool false, .int .u64 0], stA gB⟩) List.mem_cons_self rfl
  replace kk := Lib.hid (show ∀ x ∈ (s 10, 29, stA gB) :: [(NA, 29, stA gA), (S, 29, stA g1)], Blk Wq x.1 x.2.1 x.2.2 from List.forall_mem_cons.2 ⟨z0.1, h.k⟩)
  replace ol := Lib.hid (show ∀ y ∈ (s 10, 29, stA gB) :: [(NA, 29, stA gA), (S, 29, stA g1)], y.1 ∉ [B] from List.forall_mem_cons.2 ⟨by have z2 : B < s 10 := z0.2.1; simp; omega, ol.out⟩)
  replace p : Pg S w Wq B m1 := h.g
  clear h z0
  generalize s 10 = NB at *
  generalize s 11 = XB at *
  clear s Wp
  generalize Wq = Wp at *
  go_upto_region 13 with fail
  refine wp_region_seq (F := ?_) (fun _ _ => False) (fun _ _ _ _ h => h.elim) [some 70, some 71, some 72, some 73, some 74, some 69, some 75, some 76, some 77, some 16, some 17, none, none, some 18] [some (mp B), some (stV g1), some (opV ⟨2, 0, 40, 0, 0, 0⟩), some (inV (iCal)), some (.tuple #[stV gC, fltV 0 0 0 0, .bool true]), some (.tuple #[stV gC, fltV 0 0 0 0, .bool true]), some (stV gC), some (fltV 0 0 0 0), some (.bool true), none, none, some undef, some undef, some (.bool true)] (RI (fun k W => Pg S w W B (bif k then m2 else m1)) B 4 14 [(NB, 29, stA gB), (NA, 29, stA gA), (S, 29, stA g1)] [⟨9, 11, 29, #[.int .u32 0, .int .u32 0, .int .u32 0, .int .u32 0, .int .u32 0, .int .u32 0, .int .u32 0, .int .u32 0, .int .u32 0, .bool false, .bool false, .bool false, .bool false, .bool false, .bool false, .bool false, .int .u64 0], stA gC⟩, ⟨10, 12, 42, #[.int .i64 0, .int .u32 0, .int .u32 0, .int .i64 0], #[.int .i64 0, .int .u32 0, .int .u32 0, .int .i64 0]⟩]) (fun _ => 0) (by kernel_rfl) (fun s => ?_) (RI.start p kk.out _) ?_ (fun s Wq h => ?_)
  rotate_left
  · simp only [vsOf, putD, Act.put, Nat.reduceAdd, List.setIfInBounds_toArray, List.set_cons_zero, List.set_cons_succ]
    rfl
  · refine AllOps.cons ?_ (AllOps.cons ?_ (AllOps.cons ?_ (AllOps.cons ?_ (AllOps.cons ?_ (AllOps.cons ?_ (AllOps.cons ?_ (AllOps.cons ?_ (AllOps.cons ?_ (AllOps.cons ?_ (AllOps.cons ?_ (AllOps.cons ?_ (AllOps.cons ?_ (AllOps.cons ?_ AllOps.nil)))))))))))))
    · refine ObOp.val (fun s => mp B) (by kernel_rfl) (fun _ => rfl) (fun s => by kernel_rfl) (fun s D w hd hcl h => ?_)
      go_simp
      try rfl
    · refine ObOp.val (fun s => stV g1) (by kernel_rfl) (fun _ => rfl) (fun s => by kernel_rfl) (fun s D w hd hcl h => ?_)
      exact run_load_row (by rfl) (by rfl) 29 _ (0, 0) _ (h.k _ (List.mem_cons_of_mem _ (List.mem_cons_of_mem _ List.mem_cons_self))).h Tryz.underlying29 rfl szS
    · refine ObOp.val (fun s => opV ⟨2, 0, 40, 0, 0, 0⟩) (by kernel_rfl) (fun _ => rfl) (fun s => by kernel_rfl) (fun s D w hd hcl h => ?_)
      go_simp
      try exact ⟨rfl, rfl, rfl, rfl, rfl, rfl⟩
    · refine ObOp.val (fun s => inV (iCal)) (by kernel_rfl) (fun _ => rfl) (fun s => by kernel_rfl) (fun s D w hd hcl h => ?_)
      go_simp
      exact ⟨rfl, rfl, rfl, rfl, rfl, rfl, rfl, rfl, rfl, rfl, rfl, rfl, rfl, rfl, rfl, rfl⟩
    · refine ObOp.guest (Sx := [B]) (fun k hk => by simp at hk; omega) (fun s => .tuple #[stV gC, fltV 0 0 0 0, .bool true]) (19) (fun s => #[mp B, stV g1, inV (iCal)]) (by kernel_rfl) ol.out (fun _ => rfl) (fun s => by kernel_rfl) (fun s D w ha h => ?_) (fun s w hg => ?_)
      · go_simp
        try rfl
      · exact hC.out.pg T0.out hS0 ok2 hg
    · refine ObOp.val (fun s => .tuple #[stV gC, fltV 0 0 0 0, .bool true]) (by kernel_rfl) (fun _ => rfl) (fun s => by kernel_rfl) (fun s D w hd hcl h => ?_)
      go_simp
      try rfl
    · refine ObOp.val (fun s => stV gC) (by kernel_rfl) (fun _ => rfl) (fun s => by kernel_rfl) (fun s D w hd hcl h => ?_)
      go_simp
      try rfl
    · refine ObOp.val (fun s => fltV 0 0 0 0) (by kernel_rfl) (fun _ => rfl) (fun s => by kernel_rfl) (fun s D w hd hcl h => ?_)
      go_simp
      try rfl
    · refine ObOp.val (fun s => .bool true) (by kernel_rfl) (fun _ => rfl) (fun s => by kernel_rfl) (fun s D w hd hcl h => ?_)
      go_simp
      try rfl
    · refine ObOp.alloc (gok13 S w B m1 m2) (x := ⟨9, 11, 29, #[.int .u32 0, .int .u32 0, .int .u32 0, .int .u32 0, .int .u32 0, .int .u32 0, .int .u32 0, .int .u32 0, .int .u32 0, .bool false, .bool false, .bool false, .bool false, .bool false, .bool false, .bool false, .int .u64 0], stA gC⟩) List.mem_cons_self (by kernel_rfl) (fun _ => rfl) rfl (fun s => by kernel_rfl) (fun s w => ?_)
      go_simp
      try rfl
    · refine ObOp.alloc (gok13 S w B m1 m2) (x := ⟨10, 12, 42, #[.int .i64 0, .int .u32 0, .int .u32 0, .int .i64 0], #[.int .i64 0, .int .u32 0, .int .u32 0, .int .i64 0]⟩) (List.mem_cons_of_mem _ List.mem_cons_self) (by kernel_rfl) (fun _ => rfl) rfl (fun s => by kernel_rfl) (fun s w => ?_)
      go_simp
      try rfl
    · refine ObOp.stores (gok13 S w B m1 m2) (x := ⟨9, 11, 29, #[.int .u32 0, .int .u32 0, .int .u32 0, .int .u32 0, .int .u32 0, .int .u32 0, .int .u32 0, .int .u32 0, .int .u32 0, .bool false, .bool false, .bool false, .bool false, .bool false, .bool false, .bool false, .int .u64 0], stA gC⟩) List.mem_cons_self (by kernel_rfl) (fun s => by kernel_rfl) rfl (by kernel_rfl) (fun s D w K hD hb hk => ?_)
      exact wp_store_row _ _ _ rfl (s 9) (stA gC) rfl rfl (29) (#[.int .u32 0, .int .u32 0, .int .u32 0, .int .u32 0, .int .u32 0, .int .u32 0, .int .u32 0, .int .u32 0, .int .u32 0, .bool false, .bool false, .bool false, .bool false, .bool false, .bool false, .bool false, .int .u64 0]) hb.h (by kernel_rfl) (by kernel_rfl) (by first | exact stA_all _ | simp [Value.oneCell']) hk
    · refine ObOp.stores (gok13 S w B m1 m2) (x := ⟨10, 12, 42, #[.int .i64 0, .int .u32 0, .int .u32 0, .int .i64 0], #[.int .i64 0, .int .u32 0, .int .u32 0, .int .i64 0]⟩) (List.mem_cons_of_mem _ List.mem_cons_self) (by kernel_rfl) (fun s => by kernel_rfl) rfl (by kernel_rfl) (fun s D w K hD hb hk => ?_)
      exact wp_store_row _ _ _ rfl (s 10) (#[.int .i64 0, .int .u32 0, .int .u32 0, .int .i64 0]) rfl rfl (42) (#[.int .i64 0, .int .u32 0, .int .u32 0, .int .i64 0]) hb.h (by kernel_rfl) (by kernel_rfl) (by first | exact stA_all _ | simp [Value.oneCell']) hk
    · refine ObOp.val (fun s => .bool true) (by kernel_rfl) (fun _ => rfl) (fun s => by kernel_rfl) (fun s D w hd hcl h => ?_)
      go_simp
      try rfl
  have z0 := h.box (x := ⟨9, 11, 29, #[.int .u32 0, .int .u32 0, .int .u32 0, .int .u32 0, .int .u32 0, .int .u32 0, .int .u32 0, .int .u32 0, .int .u32 0, .bool false, .bool false, .bool false, .bool false, .bool false, .bool false, .bool false, .int .u64 0], stA gC⟩) List.mem_cons_self rfl
  replace kk := Lib.hid (show ∀ x ∈ (s 9, 29, stA gC) :: [(NB, 29, stA gB), (NA, 29, stA gA), (S, 29, stA g1)], Blk Wq x.1 x.2.1 x.2.2 from List.forall_mem_cons.2 ⟨z0.1, h.k⟩)
  replace ol := Lib.hid (show ∀ y ∈ (s 9, 29, stA gC) :: [(NB, 29, stA gB), (NA, 29, stA gA), (S, 29, stA g1)], y.1 ∉ [B] from List.forall_mem_cons.2 ⟨by have z2 : B < s 9 := z0.2.1; simp; omega, ol.out⟩)
  replace p : Pg S w Wq B m2 := h.g
  clear h z0
  generalize s 9 = NC at *
  generalize s 10 = XC at *
  clear s Wp
  generalize Wq = Wp at *
  go_upto_region 14 with fail
  refine wp_region_seq (F := ?_) (fun _ _ => False) (fun _ _ _ _ h => h.elim) [some 79, some 80, some 81, some 82, some 78, some 83, some 84, some 85, some 19, some 20, none, none, some 21] [some (mp B), some (stV gC), some (inV (iRet)), some (.tuple #[stV gD, fltV 0 0 0 0, .bool true]), some (.tuple #[stV gD, fltV 0 0 0 0, .bool true]), some (stV gD), some (fltV 0 0 0 0), some (.bool true), none, none, some undef, some undef, some (.bool true)] (RI (fun k W => Pg S w W B (bif k then m2 else m2)) B 3 13 [(NC, 29, stA gC), (NB, 29, stA gB), (NA, 29, stA gA), (S, 29, stA g1)] [⟨8, 10, 29, #[.int .u32 0, .int .u32 0, .int .u32 0, .int .u32 0, .int .u32 0, .int .u32 0, .int .u32 0, .int .u32 0, .int .u32 0, .bool false, .bool false, .bool false, .bool false, .bool false, .bool false, .bool false, .int .u64 0], stA gD⟩, ⟨9, 11, 42, #[.int .i64 0, .int .u32 0, .int .u32 0, .int .i64 0], #[.int .i64 0, .int .u32 0, .int .u32 0, .int .i64 0]⟩]) (fun _ => 0) (by kernel_rfl) (fun s => ?_) (RI.start p kk.out _) ?_ (fun s Wq h => ?_)
  rotate_left
  · simp only [vsOf, putD, Act.put, Nat.reduceAdd, List.setIfInBounds_toArray, List.set_cons_zero, List.set_cons_succ]
    rfl
  · refine AllOps.cons ?_ (AllOps.cons ?_ (AllOps.cons ?_ (AllOps.cons ?_ (AllOps.cons ?_ (AllOps.cons ?_ (AllOps.cons ?_ (AllOps.cons ?_ (AllOps.cons ?_ (AllOps.cons ?_ (AllOps.cons ?_ (AllOps.cons ?_ (AllOps.cons ?_ AllOps.nil))))))))))))
    · refine ObOp.val (fun s => mp B) (by kernel_rfl) (fun _ => rfl) (fun s => by kernel_rfl) (fun s D w hd hcl h => ?_)
      go_simp
      try rfl
    · refine ObOp.val (fun s => stV gC) (by kernel_rfl) (fun _ => rfl) (fun s => by kernel_rfl) (fun s D w hd hcl h => ?_)
      exact run_load_row (by rfl) (by rfl) 29 _ (0, 0) _ (h.k _ List.mem_cons_self).h Tryz.underlying29 rfl szS
    · refine ObOp.val (fun s => inV (iRet)) (by kernel_rfl) (fun _ => rfl) (fun s => by kernel_rfl) (fun s D w hd hcl h => ?_)
      go_simp
      exact ⟨rfl, rfl, rfl, rfl, rfl, rfl, rfl, rfl, rfl, rfl, rfl, rfl, rfl, rfl, rfl, rfl⟩
    · refine ObOp.guest (Sx := [B]) (fun k hk => by simp at hk; omega) (fun s => .tuple #[stV gD, fltV 0 0 0 0, .bool true]) (19) (fun s => #[mp B, stV gC, inV (iRet)]) (by kernel_rfl) ol.out (fun _ => rfl) (fun s => by kernel_rfl) (fun s D w ha h => ?_) (fun s w hg => ?_)
      · go_simp
        try rfl
      · exact hD.out.pg T0.out hS0 ok2 hg
    · refine ObOp.val (fun s => .tuple #[stV gD, fltV 0 0 0 0, .bool true]) (by kernel_rfl) (fun _ => rfl) (fun s => by kernel_rfl) (fun s D w hd hcl h => ?_)
      go_simp
      try rfl
    · refine ObOp.val (fun s => stV gD) (by kernel_rfl) (fun _ => rfl) (fun s => by kernel_rfl) (fun s D w hd hcl h => ?_)
      go_simp
      try rfl
    · refine ObOp.val (fun s => fltV 0 0 0 0) (by kernel_rfl) (fun _ => rfl) (fun s => by kernel_rfl) (fun s D w hd hcl h => ?_)
      go_simp
      try rfl
    · refine ObOp.val (fun s => .bool true) (by kernel_rfl) (fun _ => rfl) (fun s => by kernel_rfl) (fun s D w hd hcl h => ?_)
      go_simp
      try rfl
    · refine ObOp.alloc (gok13 S w B m2 m2) (x := ⟨8, 10, 29, #[.int .u32 0, .int .u32 0, .int .u32 0, .int .u32 0, .int .u32 0, .int .u32 0, .int .u32 0, .int .u32 0, .int .u32 0, .bool false, .bool false, .bool false, .bool false, .bool false, .bool false, .bool false, .int .u64 0], stA gD⟩) List.mem_cons_self (by kernel_rfl) (fun _ => rfl) rfl (fun s => by kernel_rfl) (fun s w => ?_)
      go_simp
      try rfl
    · refine ObOp.alloc (gok13 S w B m2 m2) (x := ⟨9, 11, 42, #[.int .i64 0, .int .u32 0, .int .u32 0, .int .i64 0], #[.int .i64 0, .int .u32 0, .int .u32 0, .int .i64 0]⟩) (List.mem_cons_of_mem _ List.mem_cons_self) (by kernel_rfl) (fun _ => rfl) rfl (fun s => by kernel_rfl) (fun s w => ?_)
      go_simp
      try rfl
    · refine ObOp.stores (gok13 S w B m2 m2) (x := ⟨8, 10, 29, #[.int .u32 0, .int .u32 0, .int .u32 0, .int .u32 0, .int .u32 0, .int .u32 0, .int .u32 0, .int .u32 0, .int .u32 0, .bool false, .bool false, .bool false, .bool false, .bool false, .bool false, .bool false, .int .u64 0], stA gD⟩) List.mem_cons_self (by kernel_rfl) (fun s => by kernel_rfl) rfl (by kernel_rfl) (fun s D w K hD hb hk => ?_)
      exact wp_store_row _ _ _ rfl (s 8) (stA gD) rfl rfl (29) (#[.int .u32 0, .int .u32 0, .int .u32 0, .int .u32 0, .int .u32 0, .int .u32 0, .int .u32 0, .int .u32 0, .int .u32 0, .bool false, .bool false, .bool false, .bool false, .bool false, .bool false, .bool false, .int .u64 0]) hb.h (by kernel_rfl) (by kernel_rfl) (by first | exact stA_all _ | simp [Value.oneCell']) hk
    · refine ObOp.stores (gok13 S w B m2 m2) (x := ⟨9, 11, 42, #[.int .i64 0, .int .u32 0, .int .u32 0, .int .i64 0], #[.int .i64 0, .int .u32 0, .int .u32 0, .int .i64 0]⟩) (List.mem_cons_of_mem _ List.mem_cons_self) (by kernel_rfl) (fun s => by kernel_rfl) rfl (by kernel_rfl) (fun s D w K hD hb hk => ?_)
      exact wp_store_row _ _ _ rfl (s 9) (#[.int .i64 0, .int .u32 0, .int .u32 0, .int .i64 0]) rfl rfl (42) (#[.int .i64 0, .int .u32 0, .int .u32 0, .int .i64 0]) hb.h (by kernel_rfl) (by kernel_rfl) (by first | exact stA_all _ | simp [Value.oneCell']) hk
    · refine ObOp.val (fun s => .bool true) (by kernel_rfl) (fun _ => rfl) (fun s => by kernel_rfl) (fun s D w hd hcl h => ?_)
      go_simp
      try rfl
  have z0 := h.box (x := ⟨8, 10, 29, #[.int .u32 0, .int .u32 0, .int .u32 0, .int .u32 0, .int .u32 0, .int .u32 0, .int .u32 0, .int .u32 0, .int .u32 0, .bool false, .bool false, .bool false, .bool false, .bool false, .bool false, .bool false, .int .u64 0], stA gD⟩) List.mem_cons_self rfl
  replace kk := Lib.hid (show ∀ x ∈ (s 8, 29, stA gD) :: [(NC, 29, stA gC), (NB, 29, stA gB), (NA, 29, stA gA), (S, 29, stA g1)], Blk Wq x.1 x.2.1 x.2.2 from List.forall_mem_cons.2 ⟨z0.1, h.k⟩)
  replace ol := Lib.hid (show ∀ y ∈ (s 8, 29, stA gD) :: [(NC, 29, stA gC), (NB, 29, stA gB), (NA, 29, stA gA), (S, 29, stA g1)], y.1 ∉ [B] from List.forall_mem_cons.2 ⟨by have z2 : B < s 8 := z0.2.1; simp; omega, ol.out⟩)
  replace p : Pg S w Wq B m2 := h.g
  clear h z0
  generalize s 8 = ND at *
  generalize s 9 = XD at *
  clear s Wp
  generalize Wq = Wp at *
  go_upto_region 15 with fail
  clear hA hB hC hD T0
  refine wp_region_seq (F := ?_) (fun _ _ => False) (fun _ _ _ _ h => h.elim) [some 86, some 22, none] [some (stV g1), none, some undef] (RI (fun k W => Pg S w W B (bif k then m2 else m2)) B 3 3 [(ND, 29, stA gD), (NC, 29, stA gC), (NB, 29, stA gB), (NA, 29, stA gA), (S, 29, stA g1)] [⟨1, 2, 29, #[.int .u32 0, .int .u32 0, .int .u32 0, .int .u32 0, .int .u32 0, .int .u32 0, .int .u32 0, .int .u32 0, .int .u32 0, .bool false, .bool false, .bool false, .bool false, .bool false, .bool false, .bool false, .int .u64 0], stA g1⟩]) (fun _ => 0) (by kernel_rfl) (fun s => ?_) (RI.start p kk.out _) ?_ (fun s Wq h => ?_)
  rotate_left
  · simp only [vsOf, putD, Act.put, Nat.reduceAdd, List.setIfInBounds_toArray, List.set_cons_zero, List.set_cons_succ]
    rfl
  · refine AllOps.cons ?_ (AllOps.cons ?_ (AllOps.cons ?_ AllOps.nil))
    · refine ObOp.val (fun s => stV g1) (by kernel_rfl) (fun _ => rfl) (fun s => by kernel_rfl) (fun s D w hd hcl h => ?_)
      exact run_load_row (by rfl) (by rfl) 29 _ (0, 0) _ (h.k _ (List.mem_cons_of_mem _ (List.mem_cons_of_mem _ (List.mem_cons_of_mem _ (List.mem_cons_of_mem _ List.mem_cons_self))))).h Tryz.underlying29 rfl szS
    · refine ObOp.alloc (gok13 S w B m2 m2) (x := ⟨1, 2, 29, #[.int .u32 0, .int .u32 0, .int .u32 0, .int .u32 0, .int .u32 0, .int .u32 0, .int .u32 0, .int .u32 0, .int .u32 0, .bool false, .bool false, .bool false, .bool false, .bool false, .bool false, .bool false, .int .u64 0], stA g1⟩) List.mem_cons_self (by kernel_rfl) (fun _ => rfl) rfl (fun s => by kernel_rfl) (fun s w => ?_)
      go_simp
      try rfl
    · refine ObOp.stores (gok13 S w B m2 m2) (x := ⟨1, 2, 29, #[.int .u32 0, .int .u32 0, .int .u32 0, .int .u32 0, .int .u32 0, .int .u32 0, .int .u32 0, .int .u32 0, .int .u32 0, .bool false, .bool false, .bool false, .bool false, .bool false, .bool false, .bool false, .int .u64 0], stA g1⟩) List.mem_cons_self (by kernel_rfl) (fun s => by kernel_rfl) rfl (by kernel_rfl) (fun s D w K hD hb hk => ?_)
      exact wp_store_row _ _ _ rfl (s 1) (stA g1) rfl rfl (29) (#[.int .u32 0, .int .u32 0, .int .u32 0, .int .u32 0, .int .u32 0, .int .u32 0, .int .u32 0, .int .u32 0, .int .u32 0, .bool false, .bool false, .bool false, .bool false, .bool false, .bool false, .bool false, .int .u64 0]) hb.h (by kernel_rfl) (by kernel_rfl) (by first | exact stA_all _ | simp [Value.oneCell']) hk
  have z0 := h.box (x := ⟨1, 2, 29, #[.int .u32 0, .int .u32 0, .int .u32 0, .int .u32 0, .int .u32 0, .int .u32 0, .int .u32 0, .int .u32 0, .int .u32 0, .bool false, .bool false, .bool false, .bool false, .bool false, .bool false, .bool false, .int .u64 0], stA g1⟩) List.mem_cons_self rfl
  replace kk := Lib.hid (show ∀ x ∈ (s 1, 29, stA g1) :: [(ND, 29, stA gD), (NC, 29, stA gC), (NB, 29, stA gB), (NA, 29, stA gA), (S, 29, stA g1)], Blk Wq x.1 x.2.1 x.2.2 from List.forall_mem_cons.2 ⟨z0.1, h.k⟩)
  replace ol := Lib.hid (show ∀ y ∈ (s 1, 29, stA g1) :: [(ND, 29, stA gD), (NC, 29, stA gC), (NB, 29, stA gB), (NA, 29, stA gA), (S, 29, stA g1)], y.1 ∉ [B] from List.forall_mem_cons.2 ⟨by have z2 : B < s 1 := z0.2.1; simp; omega, ol.out⟩)
  replace p : Pg S w Wq B m2 := h.g
  have ndNW := Lib.hid (show ∀ y ∈ [(ND, 29, stA gD), (NC, 29, stA gC), (NB, 29, stA gB), (NA, 29, stA gA), (S, 29, stA g1)], s 1 ≠ y.1 from z0.2.2)
  have loNW := Lib.hid (show B < s 1 from z0.2.1)
  clear h z0
  generalize s 1 = NW at *
  clear s Wp
  generalize Wq = Wp at *
  have kW := kk.out _ List.mem_cons_self
  have kS := kk.out _ (List.mem_cons_of_mem _ (List.mem_cons_of_mem _ (List.mem_cons_of_mem _ (List.mem_cons_of_mem _ (List.mem_cons_of_mem _ List.mem_cons_self)))))
  have ixW := Lib.hid (fun W => ix_r8 NW j hj W)
  have ixS := Lib.hid (fun W => ix_r8 S k hk W)
  have cS := kS.cell (st_at g1 hk)
  have cW := kW.cell (st_at g1 hj)
  have fW := kW.fr j
  have cW8 := kW.cell (i := 8) (v := .int .u32 g1.pc) rfl
  have fW8 := kW.fr 8
  have hW : ((stA g1).setIfInBounds j (.int .u32 (g1.r k))).setIfInBounds 8 (.int .u32 18) = stA gB := by rw [setrA g1 j hj, setpcA, hBW.out]
  go_upto_region 17 with (first | (with_reducible refine ixW.out _))
  clear kS ixW ixS cS cW fW cW8 fW8
  have kW2 := ((kW.set j (.int .u32 (g1.r k))).set 8 (.int .u32 18))
  rw [hW] at kW2
  replace p := p.store ((But.refl [NW] Wp.heap.size Wp).setCell (p := ⟨NW, j, none⟩) (by simp) (.int .u32 (g1.r k))) loNW.out
  replace p := p.store ((But.refl [NW] (Wp.setCell ⟨NW, j, none⟩ (.int .u32 (g1.r k))).heap.size (Wp.setCell ⟨NW, j, none⟩ (.int .u32 (g1.r k)))).setCell (p := ⟨NW, 8, none⟩) (by simp) (.int .u32 18)) loNW.out
  replace kk := Lib.hid (show ∀ x ∈ (NW, 29, stA gB) :: [(ND, 29, stA gD), (NC, 29, stA gC), (NB, 29, stA gB), (NA, 29, stA gA), (S, 29, stA g1)], Blk ((Wp.setCell ⟨NW, j, none⟩ (.int .u32 (g1.r k))).setCell ⟨NW, 8, none⟩ (.int .u32 18)) x.1 x.2.1 x.2.2 from List.forall_mem_cons.2 ⟨kW2, fun x hx => (((kk.out x (List.mem_cons_of_mem _ hx)).other j (.int .u32 (g1.r k)) (Ne.symm (ndNW.out x hx))).other 8 (.int .u32 18) (Ne.symm (ndNW.out x hx)))⟩)
  replace ol := Lib.hid (show ∀ y ∈ (NW, 29, stA gB) :: [(ND, 29, stA gD), (NC, 29, stA gC), (NB, 29, stA gB), (NA, 29, stA gA), (S, 29, stA g1)], y.1 ∉ [B] from List.forall_mem_cons.2 ⟨(show NW ∉ [B] from ol.out (NW, 29, stA g1) List.mem_cons_self), fun y hy => ol.out y (List.mem_cons_of_mem _ hy)⟩)
  clear kW kW2 hW
  generalize ((Wp.setCell ⟨NW, j, none⟩ (.int .u32 (g1.r k))).setCell ⟨NW, 8, none⟩ (.int .u32 18)) = Wp at *
  refine wp_region_seq (F := ?_) (fun _ _ => False) (fun _ _ _ _ h => h.elim) [some 95, some 23, none] [some (stV g1), none, some undef] (RI (fun k W => Pg S w W B (bif k then m2 else m2)) B 3 3 [(NW, 29, stA gB), (ND, 29, stA gD), (NC, 29, stA gC), (NB, 29, stA gB), (NA, 29, stA gA), (S, 29, stA g1)] [⟨1, 2, 29, #[.int .u32 0, .int .u32 0, .int .u32 0, .int .u32 0, .int .u32 0, .int .u32 0, .int .u32 0, .int .u32 0, .int .u32 0, .bool false, .bool false, .bool false, .bool false, .bool false, .bool false, .bool false, .int .u64 0], stA g1⟩]) (fun _ => 0) (by kernel_rfl) (fun s => ?_) (RI.start p kk.out _) ?_ (fun s Wq h => ?_)
  rotate_left
  · simp only [vsOf, putD, Act.put, Nat.reduceAdd, List.setIfInBounds_toArray, List.set_cons_zero, List.set_cons_succ]
    rfl
  · refine AllOps.cons ?_ (AllOps.cons ?_ (AllOps.cons ?_ AllOps.nil))
    · refine ObOp.val (fun s => stV g1) (by kernel_rfl) (fun _ => rfl) (fun s => by kernel_rfl) (fun s D w hd hcl h => ?_)
      exact run_load_row (by rfl) (by rfl) 29 _ (0, 0) _ (h.k _ (List.mem_cons_of_mem _ (List.mem_cons_of_mem _ (List.mem_cons_of_mem _ (List.mem_cons_of_mem _ (List.mem_cons_of_mem _ List.mem_cons_self)))))).h Tryz.underlying29 rfl szS
    · refine ObOp.alloc (gok13 S w B m2 m2) (x := ⟨1, 2, 29, #[.int .u32 0, .int .u32 0, .int .u32 0, .int .u32 0, .int .u32 0, .int .u32 0, .int .u32 0, .int .u32 0, .int .u32 0, .bool false, .bool false, .bool false, .bool false, .bool false, .bool false, .bool false, .int .u64 0], stA g1⟩) List.mem_cons_self (by kernel_rfl) (fun _ => rfl) rfl (fun s => by kernel_rfl) (fun s w => ?_)
      go_simp
      try rfl
    · refine ObOp.stores (gok13 S w B m2 m2) (x := ⟨1, 2, 29, #[.int .u32 0, .int .u32 0, .int .u32 0, .int .u32 0, .int .u32 0, .int .u32 0, .int .u32 0, .int .u32 0, .int .u32 0, .bool false, .bool false, .bool false, .bool false, .bool false, .bool false, .bool false, .int .u64 0], stA g1⟩) List.mem_cons_self (by kernel_rfl) (fun s => by kernel_rfl) rfl (by kernel_rfl) (fun s D w K hD hb hk => ?_)
      exact wp_store_row _ _ _ rfl (s 1) (stA g1) rfl rfl (29) (#[.int .u32 0, .int .u32 0, .int .u32 0, .int .u32 0, .int .u32 0, .int .u32 0, .int .u32 0, .int .u32 0, .int .u32 0, .bool false, .bool false, .bool false, .bool false, .bool false, .bool false, .bool false, .int .u64 0]) hb.h (by kernel_rfl) (by kernel_rfl) (by first | exact stA_all _ | simp [Value.oneCell']) hk
  have z0 := h.box (x := ⟨1, 2, 29, #[.int .u32 0, .int .u32 0, .int .u32 0, .int .u32 0, .int .u32 0, .int .u32 0, .int .u32 0, .int .u32 0, .int .u32 0, .bool false, .bool false, .bool false, .bool false, .bool false, .bool false, .bool false, .int .u64 0], stA g1⟩) List.mem_cons_self rfl
  replace kk := Lib.hid (show ∀ x ∈ (s 1, 29, stA g1) :: [(NW, 29, stA gB), (ND, 29, stA gD), (NC, 29, stA gC), (NB, 29, stA gB), (NA, 29, stA gA), (S, 29, stA g1)], Blk Wq x.1 x.2.1 x.2.2 from List.forall_mem_cons.2 ⟨z0.1, h.k⟩)
  replace ol := Lib.hid (show ∀ y ∈ (s 1, 29, stA g1) :: [(NW, 29, stA gB), (ND, 29, stA gD), (NC, 29, stA gC), (NB, 29, stA gB), (NA, 29, stA gA), (S, 29, stA g1)], y.1 ∉ [B] from List.forall_mem_cons.2 ⟨by have z2 : B < s 1 := z0.2.1; simp; omega, ol.out⟩)
  replace p : Pg S w Wq B m2 := h.g
  have ndNV := Lib.hid (show ∀ y ∈ [(NW, 29, stA gB), (ND, 29, stA gD), (NC, 29, stA gC), (NB, 29, stA gB), (NA, 29, stA gA), (S, 29, stA g1)], s 1 ≠ y.1 from z0.2.2)
  have loNV := Lib.hid (show B < s 1 from z0.2.1)
  clear h z0
  generalize s 1 = NV at *
  clear s Wp
  generalize Wq = Wp at *
  have kW := kk.out _ List.mem_cons_self
  have cW8 := kW.cell (i := 8) (v := .int .u32 g1.pc) rfl
  have fW8 := kW.fr 8
  have hW : (stA g1).setIfInBounds 8 (.int .u32 21) = stA gD := by rw [setpcA, hDV.out]
  go_upto_region 19 with fail
  clear cW8 fW8
  have hsub : IntKind.u32.wrap (600 + n - 4) = 596 + n := by
    show (600 + n - 4) % 4294967296 = 596 + n
    omega
  have kW2 := (kW.set 8 (.int .u32 21))
  rw [hW] at kW2
  replace p := p.store ((But.refl [NV] Wp.heap.size Wp).setCell (p := ⟨NV, 8, none⟩) (by simp) (.int .u32 21)) loNV.out
  replace kk := Lib.hid (show ∀ x ∈ (NV, 29, stA gD) :: [(NW, 29, stA gB), (ND, 29, stA gD), (NC, 29, stA gC), (NB, 29, stA gB), (NA, 29, stA gA), (S, 29, stA g1)], Blk (Wp.setCell ⟨NV, 8, none⟩ (.int .u32 21)) x.1 x.2.1 x.2.2 from List.forall_mem_cons.2 ⟨kW2, fun x hx => ((kk.out x (List.mem_cons_of_mem _ hx)).other 8 (.int .u32 21) (Ne.symm (ndNV.out x hx)))⟩)
  replace ol := Lib.hid (show ∀ y ∈ (NV, 29, stA gD) :: [(NW, 29, stA gB), (ND, 29, stA gD), (NC, 29, stA gC), (NB, 29, stA gB), (NA, 29, stA gA), (S, 29, stA g1)], y.1 ∉ [B] from List.forall_mem_cons.2 ⟨(show NV ∉ [B] from ol.out (NV, 29, stA g1) List.mem_cons_self), fun y hy => ol.out y (List.mem_cons_of_mem _ hy)⟩)
  clear kW kW2 hW
  generalize (Wp.setCell ⟨NV, 8, none⟩ (.int .u32 21)) = Wp at *
  refine wp_region_seq (F := ?_) (fun _ _ => False) (fun _ _ _ _ h => h.elim) [some 97, some 98, some 99, some 100, some 101, some 102, some 103, some 104, some 105, some 106, some 107, some 108, some 109, some 110, some 111, some 112, some 113, some 114, some 115, some 116, some 117, some 118, some 119, some 120, some 121, some 122, some 123, some 124, some 125, some 126, some 127, some 128, some 129, some 130, some 131, some 6] [some (.bool true), some (.bool true), some (.bool true), some (.bool true), some (.bool true), some (.bool true), some (.bool true), some (.bool true), some (.bool true), some (.bool true), some (.bool true), some (.pointer (some ⟨NA, 0, none⟩)), some (.pointer (some ⟨NA, 4, none⟩)), some (.int .u32 (gA.r 4)), some (.pointer (some ⟨S, 0, none⟩)), some (.pointer (some ⟨S, 4, none⟩)), some (.int .u32 (g1.r 4)), some (.int .u32 (596 + n)), some (.bool true), some (.bool true), some (.bool true), some (stV gB), some (stV gB), some (.bool true), some (.bool true), some (.bool true), some (.pointer (some ⟨NC, 8, none⟩)), some (.int .u32 gC.pc), some (.bool true), some (.bool true), some (.bool true), some (stV gD), some (stV gD), some (.bool true), some (.bool true), some (.bool true)] (RI (fun _ W => Pg S w W B m2) B 36 36 [(NV, 29, stA gD), (NW, 29, stA gB), (ND, 29, stA gD), (NC, 29, stA gC), (NB, 29, stA gB), (NA, 29, stA gA), (S, 29, stA g1)] []) (fun _ => 0) (by kernel_rfl) (fun s => ?_) (RI.start p kk.out _) ?_ (fun s Wq h => ?_)
  rotate_left
  · simp only [vsOf, putD, Act.put, Nat.reduceAdd, List.setIfInBounds_toArray, List.set_cons_zero, List.set_cons_succ]
    rfl
  · refine AllOps.cons ?_ (AllOps.cons ?_ (AllOps.cons ?_ (AllOps.cons ?_ (AllOps.cons ?_ (AllOps.cons ?_ (AllOps.cons ?_ (AllOps.cons ?_ (AllOps.cons ?_ (AllOps.cons ?_ (AllOps.cons ?_ (AllOps.cons ?_ (AllOps.cons ?_ (AllOps.cons ?_ (AllOps.cons ?_ (AllOps.cons ?_ (AllOps.cons ?_ (AllOps.cons ?_ (AllOps.cons ?_ (AllOps.cons ?_ (AllOps.cons ?_ (AllOps.cons ?_ (AllOps.cons ?_ (AllOps.cons ?_ (AllOps.cons ?_ (AllOps.cons ?_ (AllOps.cons ?_ (AllOps.cons ?_ (AllOps.cons ?_ (AllOps.cons ?_ (AllOps.cons ?_ (AllOps.cons ?_ (AllOps.cons ?_ (AllOps.cons ?_ (AllOps.cons ?_ (AllOps.cons ?_ AllOps.nil)))))))))))))))))))))))))))))))))))
    · refine ObOp.val (fun s => .bool true) (by kernel_rfl) (fun _ => rfl) (fun s => by kernel_rfl) (fun s D w hd hcl h => ?_)
      go_simp
      try rfl
    · refine ObOp.val (fun s => .bool true) (by kernel_rfl) (fun _ => rfl) (fun s => by kernel_rfl) (fun s D w hd hcl h => ?_)
      go_simp
      try rfl
    · refine ObOp.val (fun s => .bool true) (by kernel_rfl) (fun _ => rfl) (fun s => by kernel_rfl) (fun s D w hd hcl h => ?_)
      go_simp
      try rfl
    · refine ObOp.val (fun s => .bool true) (by kernel_rfl) (fun _ => rfl) (fun s => by kernel_rfl) (fun s D w hd hcl h => ?_)
      go_simp
      try rfl
    · refine ObOp.val (fun s => .bool true) (by kernel_rfl) (fun _ => rfl) (fun s => by kernel_rfl) (fun s D w hd hcl h => ?_)
      go_simp
      try rfl
    · refine ObOp.val (fun s => .bool true) (by kernel_rfl) (fun _ => rfl) (fun s => by kernel_rfl) (fun s D w hd hcl h => ?_)
      go_simp
      try rfl
    · refine ObOp.val (fun s => .bool true) (by kernel_rfl) (fun _ => rfl) (fun s => by kernel_rfl) (fun s D w hd hcl h => ?_)
      go_simp
      try rfl
    · refine ObOp.val (fun s => .bool true) (by kernel_rfl) (fun _ => rfl) (fun s => by kernel_rfl) (fun s D w hd hcl h => ?_)
      go_simp
      try rfl
    · refine ObOp.val (fun s => .bool true) (by kernel_rfl) (fun _ => rfl) (fun s => by kernel_rfl) (fun s D w hd hcl h => ?_)
      go_simp
      try rfl
    · refine ObOp.val (fun s => .bool true) (by kernel_rfl) (fun _ => rfl) (fun s => by kernel_rfl) (fun s D w hd hcl h => ?_)
      go_simp
      try rfl
    · refine ObOp.val (fun s => .bool true) (by kernel_rfl) (fun _ => rfl) (fun s => by kernel_rfl) (fun s D w hd hcl h => ?_)
      go_simp
      try rfl
    · refine ObOp.val (fun s => .pointer (some ⟨NA, 0, none⟩)) (by kernel_rfl) (fun _ => rfl) (fun s => by kernel_rfl) (fun s D w hd hcl h => ?_)
      go_simp
      try rfl
    · refine ObOp.val (fun s => .pointer (some ⟨NA, 4, none⟩)) (by kernel_rfl) (fun _ => rfl) (fun s => by kernel_rfl) (fun s D w hd hcl h => ?_)
      go_simp
      try rfl
    · refine ObOp.val (fun s => .int .u32 (gA.r 4)) (by kernel_rfl) (fun _ => rfl) (fun s => by kernel_rfl) (fun s D w hd hcl h => ?_)
      have c := (h.k _ (List.mem_cons_of_mem _ (List.mem_cons_of_mem _ (List.mem_cons_of_mem _ (List.mem_cons_of_mem _ (List.mem_cons_of_mem _ List.mem_cons_self)))))).cell (i := 4) (v := .int .u32 (gA.r 4)) rfl
      go_simp
      try rfl
    · refine ObOp.val (fun s => .pointer (some ⟨S, 0, none⟩)) (by kernel_rfl) (fun _ => rfl) (fun s => by kernel_rfl) (fun s D w hd hcl h => ?_)
      go_simp
      try rfl
    · refine ObOp.val (fun s => .pointer (some ⟨S, 4, none⟩)) (by kernel_rfl) (fun _ => rfl) (fun s => by kernel_rfl) (fun s D w hd hcl h => ?_)
      go_simp
      try rfl
    · refine ObOp.val (fun s => .int .u32 (g1.r 4)) (by kernel_rfl) (fun _ => rfl) (fun s => by kernel_rfl) (fun s D w hd hcl h => ?_)
      have c := (h.k _ (List.mem_cons_of_mem _ (List.mem_cons_of_mem _ (List.mem_cons_of_mem _ (List.mem_cons_of_mem _ (List.mem_cons_of_mem _ (List.mem_cons_of_mem _ List.mem_cons_self))))))).cell (i := 4) (v := .int .u32 (g1.r 4)) rfl
      go_simp
      try rfl
    · refine ObOp.val (fun s => .int .u32 (596 + n)) (by kernel_rfl) (fun _ => rfl) (fun s => by kernel_rfl) (fun s D w hd hcl h => ?_)
      go_simp
      try exact hsub
    · refine ObOp.val (fun s => .bool true) (by kernel_rfl) (fun _ => rfl) (fun s => by kernel_rfl) (fun s D w hd hcl h => ?_)
      go_simp
      try exact hA4
    · refine ObOp.val (fun s => .bool true) (by kernel_rfl) (fun _ => rfl) (fun s => by kernel_rfl) (fun s D w hd hcl h => ?_)
      go_simp
      try rfl
    · refine ObOp.val (fun s => .bool true) (by kernel_rfl) (fun _ => rfl) (fun s => by kernel_rfl) (fun s D w hd hcl h => ?_)
      go_simp
      try rfl
    · refine ObOp.val (fun s => stV gB) (by kernel_rfl) (fun _ => rfl) (fun s => by kernel_rfl) (fun s D w hd hcl h => ?_)
      exact run_load_row (by rfl) (by rfl) 29 _ (0, 0) _ (h.k _ (List.mem_cons_of_mem _ (List.mem_cons_of_mem _ (List.mem_cons_of_mem _ (List.mem_cons_of_mem _ List.mem_cons_self))))).h Tryz.underlying29 rfl szS
    · refine ObOp.val (fun s => stV gB) (by kernel_rfl) (fun _ => rfl) (fun s => by kernel_rfl) (fun s D w hd hcl h => ?_)
      exact run_load_row (by rfl) (by rfl) 29 _ (0, 0) _ (h.k _ (List.mem_cons_of_mem _ List.mem_cons_self)).h Tryz.underlying29 rfl szS
    · refine ObOp.val (fun s => .bool true) (by kernel_rfl) (fun _ => rfl) (fun s => by kernel_rfl) (fun s D w hd hcl h => ?_)
      exact run_eqS (by rfl) gB rfl rfl
    · refine ObOp.val (fun s => .bool true) (by kernel_rfl) (fun _ => rfl) (fun s => by kernel_rfl) (fun s D w hd hcl h => ?_)
      go_simp
      try rfl
    · refine ObOp.val (fun s => .bool true) (by kernel_rfl) (fun _ => rfl) (fun s => by kernel_rfl) (fun s D w hd hcl h => ?_)
      go_simp
      try rfl
    · refine ObOp.val (fun s => .pointer (some ⟨NC, 8, none⟩)) (by kernel_rfl) (fun _ => rfl) (fun s => by kernel_rfl) (fun s D w hd hcl h => ?_)
      go_simp
      try rfl
    · refine ObOp.val (fun s => .int .u32 gC.pc) (by kernel_rfl) (fun _ => rfl) (fun s => by kernel_rfl) (fun s D w hd hcl h => ?_)
      have c := (h.k _ (List.mem_cons_of_mem _ (List.mem_cons_of_mem _ (List.mem_cons_of_mem _ List.mem_cons_self)))).cell (i := 8) (v := .int .u32 gC.pc) rfl
      go_simp
      try rfl
    · refine ObOp.val (fun s => .bool true) (by kernel_rfl) (fun _ => rfl) (fun s => by kernel_rfl) (fun s D w hd hcl h => ?_)
      go_simp
      try exact hC6
    · refine ObOp.val (fun s => .bool true) (by kernel_rfl) (fun _ => rfl) (fun s => by kernel_rfl) (fun s D w hd hcl h => ?_)
      go_simp
      try rfl
    · refine ObOp.val (fun s => .bool true) (by kernel_rfl) (fun _ => rfl) (fun s => by kernel_rfl) (fun s D w hd hcl h => ?_)
      go_simp
      try rfl
    · refine ObOp.val (fun s => stV gD) (by kernel_rfl) (fun _ => rfl) (fun s => by kernel_rfl) (fun s D w hd hcl h => ?_)
      exact run_load_row (by rfl) (by rfl) 29 _ (0, 0) _ (h.k _ (List.mem_cons_of_mem _ (List.mem_cons_of_mem _ List.mem_cons_self))).h Tryz.underlying29 rfl szS
    · refine ObOp.val (fun s => stV gD) (by kernel_rfl) (fun _ => rfl) (fun s => by kernel_rfl) (fun s D w hd hcl h => ?_)
      exact run_load_row (by rfl) (by rfl) 29 _ (0, 0) _ (h.k _ List.mem_cons_self).h Tryz.underlying29 rfl szS
    · refine ObOp.val (fun s => .bool true) (by kernel_rfl) (fun _ => rfl) (fun s => by kernel_rfl) (fun s D w hd hcl h => ?_)
      exact run_eqS (by rfl) gD rfl rfl
    · refine ObOp.val (fun s => .bool true) (by kernel_rfl) (fun _ => rfl) (fun s => by kernel_rfl) (fun s D w hd hcl h => ?_)
      go_simp
      try rfl
    · refine ObOp.val (fun s => .bool true) (by kernel_rfl) (fun _ => rfl) (fun s => by kernel_rfl) (fun s D w hd hcl h => ?_)
      go_simp
      try rfl
  go_wp2_with fail
  exact bodyPost_ret (v := .bool true) (by simp [results, Tryz.results6, go_sem]) rfl ⟨rfl, by rw [hS0]; exact h.g.done⟩
end Go.Proofs.YtcdoidnfdkodoaaGreatDoor
