import Derived.Test.YtcdoidnfdkodoaaGreatDoorS61
import Derived.Test.YtcdoidnfdkodoaaGreatDoorS60
import Derived.Test.YtcdoidnfdkodoaaGreatDoorS46
namespace Go.Proofs.YtcdoidnfdkodoaaGreatDoor
open Go.RowKit
set_option linter.unusedVariables false
set_option linter.unusedSimpArgs false
set_option linter.unusedSectionVars false
abbrev opsA : Array Value := #[.int .i64 3, .int .i64 8, .int .i64 12, .int .i64 15, .int .i64 23, .int .i64 9, .int .i64 14, .int .i64 5]
theorem opsA_at {p : Nat} (hp : p < 8) : opsA[p]? = some (.int .i64 (opsL p)) := by
  rcases (by omega : p = 0 ∨ p = 1 ∨ p = 2 ∨ p = 3 ∨ p = 4 ∨ p = 5 ∨ p = 6 ∨ p = 7) with rfl | rfl | rfl | rfl | rfl | rfl | rfl | rfl <;> rfl
theorem ix_i8 (b k : Nat) (h : k < 8) (W : World) : (Instr.indexAt 77 (.pointer (some ⟨b, 0, none⟩)) (.int .u8 (k : Int))).run Tryz.prog W = .ok (.pointer (some ⟨b, k, none⟩)) W := by
  have s1 : ∀ W, (sizeOf 3).run Tryz.prog W = .ok 1 W := fun W => by kernel_rfl
  have hj : (k : Int) < 8 := by omega
  simp [Instr.indexAt, run_underlying Tryz.underlying77, s1, go_sem, hj, h, Instr.sureAddr]
theorem and31 (c : Int) (hc : 1 ≤ c ∧ c ≤ 7) : (c % 4 = 3 → bits .and .i64 c 3 = 3) ∧ (c % 4 ≠ 3 → (bits .and .i64 c 3 == 3) = false) ∧ (c % 2 = 1 → bits .and .i64 c 1 = 1) ∧ (c % 2 = 0 → bits .and .i64 c 1 = 0) :=
  seven (P := fun c => (c % 4 = 3 → bits .and .i64 c 3 = 3) ∧ (c % 4 ≠ 3 → (bits .and .i64 c 3 == 3) = false) ∧ (c % 2 = 1 → bits .and .i64 c 1 = 1) ∧ (c % 2 = 0 → bits .and .i64 c 1 = 0)) (by refine ⟨?_, ?_, ?_, ?_, ?_, ?_, ?_⟩ <;> decide) c hc
theorem run_neS {ev : Operand → Value} {o : Oper} {w : World} {x y : Operand} (ho : o.op = .binOp .neq 29 x y 29) (g : Gs) (hx : ev x = stV g) (hy : ev y = stV g) : (execOp ev o).run Tryz.prog w = .ok (.value (.bool false)) w := by
  have heq := eq8 9996 g.r w
  unfold execOp
  simp only [ho, hx, hy]
  go_simp
def iB0 (p : Nat) (v : Int) : In := ⟨opsL p, 0, oM 8, oI v, false, 7⟩
set_option maxRecDepth 100000 in
set_option maxHeartbeats 8000000 in
theorem both_walk (g : Gs) (q d v c : Int) (wq : 0 ≤ q ∧ q ≤ 255) (wd : 0 ≤ d ∧ d ≤ 255) (hv : 0 ≤ v ∧ v ≤ 4294967295) (hc : 1 ≤ c ∧ c ≤ 7) (ec : q % 7 + 1 = c) (z : Nat) (hz : z < 8) (ez0 : d % 8 = z)
    (hA : c % 4 = 3 → ∃ (gT : Gs) (m1 : Mm) (gC : Gs), m1.ok ∧ DoR (mG c) g (iBt z (v % 200)) gT m1 ∧ gC.r = g.r ∧ DoR m1 g (iCm v) gC m1)
    (hB : c % 4 ≠ 3 → c % 2 = 1 → ∃ gC : Gs, DoF (mG c) g (iBt z (v % 200)) 1 g.pc 8 2 ∧ gC.r = g.r ∧ DoR (mG c) g (iCm v) gC (mG c))
    (hD : c % 2 = 0 → DoF (mG c) g (iBt z (v % 200)) 1 g.pc 8 1 ∧ DoF (mG c) g (iCm v) 1 g.pc 8 1) (w : World) (tabs : Tb w) :
    Calls Tryz.prog 13 #[stV g, .int .u8 q, .int .u8 d, .int .u32 v] w fun e w' => e = .returned (.bool true) ∧ Below w.heap.size w w' := by
  have b0 := (Below.refl w.heap.size w).alloc (Nat.le_refl _) (.cells (stA g) 29)
  have kS := Blk.new w 29 (stA g)
  have hK := Lib.hid (fun W (t : Tb W) => known13 W t)
  have hNew := Lib.hid (fun W => pNew W)
  have T0 := Lib.hid tabs
  replace hA := Lib.hid hA
  replace hB := Lib.hid hB
  replace hD := Lib.hid hD
  have e0 : Int.tmod q 7 = q % 7 := Int.tmod_eq_emod_of_nonneg wq.1
  have ez : Int.tmod d 8 = z := by rw [Int.tmod_eq_emod_of_nonneg wd.1]; exact ez0
  have ev : Int.tmod v 200 = v % 200 := Int.tmod_eq_emod_of_nonneg hv.1
  have ew : wrap64 (q % 7 + 1) = c := by rw [ec]; unfold wrap64; omega
  clear tabs
  go_enter Tryz.func13, Tryz.ntmps13
  go_upto_region 1 with fail
  generalize w.alloc (.cells (stA g) 29) = W0 at *
  go_upto_region 3 with (first | ((with_reducible refine (hK.out _ (T0.out.below b0)).mono ?_); rintro e W1 ⟨rfl, b1⟩))
  replace kS := kS.below b1 kS.lt
  replace b1 := b0.trans (b1.mono b0.size)
  go_upto_region 5 with (first | ((with_reducible refine (hNew.out _).mono ?_); rintro e W2 ⟨rfl, p2⟩))
  have nB := Lib.hid (show w.heap.size < W1.heap.size from kS.lt)
  replace kS := kS.below p2.done kS.lt
  replace p2 : Pg w.heap.size w W2 W1.heap.size Mm.new := ⟨p2.h, p2.ok, (But.of b1 _).trans (p2.k.mono b1.size (by simp)), b1.size⟩
  generalize W1.heap.size = B at *
  clear b0 b1
  try rw [ec]
  have q2 := Lib.hid (kp_map13 p2 0 1 c (by decide) (mG_map c hc))
  go_upto_region 7 with (first | ((with_reducible refine q2.out.mono ?_); rintro e w3 ⟨rfl, p3, b3⟩))
  replace kS := kS.but b3 kS.lt (by have := nB.out; simp; omega)
  replace p3 : Pg w.heap.size w w3 B (mG c) := p3
  clear p2 q2 b3
  go_upto_region 8 with fail
  have kO := Blk.new w3 77 opsA
  replace kS := kS.alloc (.cells opsA 77)
  have lO := Lib.hid (show B < w3.heap.size from p3.h.lt)
  have p := p3.below ((Below.refl w3.heap.size w3).alloc (Nat.le_refl _) (.cells opsA 77))
  clear p3
  generalize w3.alloc (.cells opsA 77) = Wp at *
  generalize w3.heap.size = NO at *
  generalize hS0 : w.heap.size = S at *
  clear hK hNew e0
  have kk := Lib.hid (show ∀ x ∈ [(NO, 77, opsA), (S, 29, stA g)], Blk Wp x.1 x.2.1 x.2.2 from List.forall_mem_cons.2 ⟨kO, List.forall_mem_cons.2 ⟨kS, fun x hx => by cases hx⟩⟩)
  have ol := Lib.hid (show ∀ y ∈ [(NO, 77, opsA), (S, 29, stA g)], y.1 ∉ [B] from List.forall_mem_cons.2 ⟨by have := lO.out; simp; omega, List.forall_mem_cons.2 ⟨by have := nB.out; simp; omega, fun x hx => by cases hx⟩⟩)
  clear kS kO
  refine wp_region_inv (F := ?_) (fun _ _ => False) (fun _ _ _ _ h => h.elim) [some 33, some 34, some 35, some 36, some 37, some 38, some 39, some 40, some 41, some 12, none] [some (.int .u8 d), some (.int .u8 z), some (.pointer (some ⟨NO, z, none⟩)), some (.int .i64 (opsL z)), some (opV ⟨3, 0, 8, -1, -1, 1⟩), some (.int .u32 v), some (.int .u32 (v % 200)), some (opV ⟨2, 0, (v % 200), 0, 0, 0⟩), some (inV (iB0 z (v % 200))), none, some undef] (RI (fun k W => Pg S w W B (bif k then (mG c) else (mG c))) B 11 11 [(NO, 77, opsA), (S, 29, stA g)] [⟨9, 10, 33, #[.int .i64 0, .int .i64 0, .int .i64 0, .int .i64 0, .int .u32 0, .int .i64 0, .int .i64 0, .int .u32 0, .int .i64 0, .int .i64 0, .int .u32 0, .int .i64 0, .int .i64 0, .int .u32 0, .bool false, .int .i64 0], in16 (iB0 z (v % 200))⟩]) (fun _ => 0) (by kernel_rfl) (by kernel_rfl) (fun s => ?_) (RI.start p.drew (fun x hx => (kk.out x hx).drew) _) ?_ (fun s Wq h => ?_)
  rotate_left
  · simp only [vsOf, putD, Act.put, Nat.reduceAdd, List.setIfInBounds_toArray, List.set_cons_zero, List.set_cons_succ]
    rfl
  · refine AllOps.cons ?_ (AllOps.cons ?_ (AllOps.cons ?_ (AllOps.cons ?_ (AllOps.cons ?_ (AllOps.cons ?_ (AllOps.cons ?_ (AllOps.cons ?_ (AllOps.cons ?_ (AllOps.cons ?_ (AllOps.cons ?_ AllOps.nil))))))))))
    · refine ObOp.val (fun s => .int .u8 d) (by kernel_rfl) (fun _ => rfl) (fun s => by kernel_rfl) (fun s D w hd hcl h => ?_)
      go_simp
      try rfl
    · refine ObOp.val (fun s => .int .u8 z) (by kernel_rfl) (fun _ => rfl) (fun s => by kernel_rfl) (fun s D w hd hcl h => ?_)
      go_simp
      try first | exact ez
    · refine ObOp.val (fun s => .pointer (some ⟨NO, z, none⟩)) (by kernel_rfl) (fun _ => rfl) (fun s => by kernel_rfl) (fun s D w hd hcl h => ?_)
      have hix := ix_i8 NO z hz w
      go_simp
      try rfl
    · refine ObOp.val (fun s => .int .i64 (opsL z)) (by kernel_rfl) (fun _ => rfl) (fun s => by kernel_rfl) (fun s D w hd hcl h => ?_)
      have c := (h.k _ List.mem_cons_self).cell (opsA_at hz)
      go_simp
      try rfl
    · refine ObOp.calls (gok13 S w B (mG c) (mG c)) (fun s => opV ⟨3, 0, 8, -1, -1, 1⟩) (33) (fun s => #[.int .u32 8]) (by kernel_rfl) (fun _ => rfl) (fun s => by kernel_rfl) (fun s D w ha h => ?_) (fun s D w hd hcl h => ?_)
      · go_simp
        try rfl
      · exact mem13 8 _
    · refine ObOp.val (fun s => .int .u32 v) (by kernel_rfl) (fun _ => rfl) (fun s => by kernel_rfl) (fun s D w hd hcl h => ?_)
      go_simp
      try rfl
    · refine ObOp.val (fun s => .int .u32 (v % 200)) (by kernel_rfl) (fun _ => rfl) (fun s => by kernel_rfl) (fun s D w hd hcl h => ?_)
      go_simp
      try first | exact ev
    · refine ObOp.calls (gok13 S w B (mG c) (mG c)) (fun s => opV ⟨2, 0, (v % 200), 0, 0, 0⟩) (34) (fun s => #[.int .u32 (v % 200)]) (by kernel_rfl) (fun _ => rfl) (fun s => by kernel_rfl) (fun s D w ha h => ?_) (fun s D w hd hcl h => ?_)
      · go_simp
        try rfl
      · exact imm13 (v % 200) _
    · refine ObOp.val (fun s => inV (iB0 z (v % 200))) (by kernel_rfl) (fun _ => rfl) (fun s => by kernel_rfl) (fun s D w hd hcl h => ?_)
      go_simp
      exact ⟨rfl, rfl, rfl, rfl, rfl, rfl, rfl, rfl, rfl, rfl, rfl, rfl, rfl, rfl, rfl, rfl⟩
    · refine ObOp.alloc (gok13 S w B (mG c) (mG c)) (x := ⟨9, 10, 33, #[.int .i64 0, .int .i64 0, .int .i64 0, .int .i64 0, .int .u32 0, .int .i64 0, .int .i64 0, .int .u32 0, .int .i64 0, .int .i64 0, .int .u32 0, .int .i64 0, .int .i64 0, .int .u32 0, .bool false, .int .i64 0], in16 (iB0 z (v % 200))⟩) List.mem_cons_self (by kernel_rfl) (fun _ => rfl) rfl (fun s => by kernel_rfl) (fun s w => ?_)
      go_simp
      try rfl
    · refine ObOp.stores (gok13 S w B (mG c) (mG c)) (x := ⟨9, 10, 33, #[.int .i64 0, .int .i64 0, .int .i64 0, .int .i64 0, .int .u32 0, .int .i64 0, .int .i64 0, .int .u32 0, .int .i64 0, .int .i64 0, .int .u32 0, .int .i64 0, .int .i64 0, .int .u32 0, .bool false, .int .i64 0], in16 (iB0 z (v % 200))⟩) List.mem_cons_self (by kernel_rfl) (fun s => by kernel_rfl) rfl (by kernel_rfl) (fun s D w K hD hb hk => ?_)
      exact wp_store_row _ _ _ rfl (s 9) (in16 (iB0 z (v % 200))) rfl rfl (33) (#[.int .i64 0, .int .i64 0, .int .i64 0, .int .i64 0, .int .u32 0, .int .i64 0, .int .i64 0, .int .u32 0, .int .i64 0, .int .i64 0, .int .u32 0, .int .i64 0, .int .i64 0, .int .u32 0, .bool false, .int .i64 0]) hb.h (by kernel_rfl) (by kernel_rfl) (by first | exact stA_all _ | simp [Value.oneCell']) hk
  have z0 := h.box (x := ⟨9, 10, 33, #[.int .i64 0, .int .i64 0, .int .i64 0, .int .i64 0, .int .u32 0, .int .i64 0, .int .i64 0, .int .u32 0, .int .i64 0, .int .i64 0, .int .u32 0, .int .i64 0, .int .i64 0, .int .u32 0, .bool false, .int .i64 0], in16 (iB0 z (v % 200))⟩) List.mem_cons_self rfl
  replace kk := Lib.hid (show ∀ x ∈ (s 9, 33, in16 (iB0 z (v % 200))) :: [(NO, 77, opsA), (S, 29, stA g)], Blk Wq x.1 x.2.1 x.2.2 from List.forall_mem_cons.2 ⟨z0.1, h.k⟩)
  replace ol := Lib.hid (show ∀ y ∈ (s 9, 33, in16 (iB0 z (v % 200))) :: [(NO, 77, opsA), (S, 29, stA g)], y.1 ∉ [B] from List.forall_mem_cons.2 ⟨by have z2 : B < s 9 := z0.2.1; simp; omega, ol.out⟩)
  replace p : Pg S w Wq B (mG c) := h.g
  have ndIT := Lib.hid (show ∀ y ∈ [(NO, 77, opsA), (S, 29, stA g)], s 9 ≠ y.1 from z0.2.2)
  have loIT := Lib.hid (show B < s 9 from z0.2.1)
  clear h z0
  generalize s 9 = IT at *
  clear s Wp
  generalize Wq = Wp at *
  have kI := kk.out _ List.mem_cons_self
  have cI := kI.cell (i := 0) (v := .int .i64 (opsL z)) rfl
  go_upto_region 9 with fail
  go_cut [54] from 42 to 54 (fun b W => b = .bool (noB (opsL z)) ∧ W = Wp)
  case first =>
    rcases (by omega : z = 0 ∨ z = 1 ∨ z = 2 ∨ z = 3 ∨ z = 4 ∨ z = 5 ∨ z = 6 ∨ z = 7) with rfl | rfl | rfl | rfl | rfl | rfl | rfl | rfl
    all_goals
      replace cI : Wp.cell? ⟨IT, 0, none⟩ = some (.int .i64 _) := cI
      simp only [opsL] at cI
      go_wp2_with fail
      go_meet
      exact ⟨rfl, rfl⟩
  case rest =>
  obtain ⟨rfl, rfl⟩ := hcut
  generalize wc = Wp at *
  generalize hnb : noB (opsL z) = nb at *
  replace hnb := Lib.hid hnb
  go_upto_if 54 with fail
  go_cut [] from 55 to 56 (fun W => (∀ x ∈ (IT, 33, in16 (iBt z (v % 200))) :: [(NO, 77, opsA), (S, 29, stA g)], Blk W x.1 x.2.1 x.2.2) ∧ Pg S w W B (mG c))
  case first =>
    have c8 := kI.cell (i := 8) (v := .int .i64 2) rfl
    have f8 := kI.fr 8
    have c9 := kI.cell (i := 9) (v := .int .i64 0) rfl
    have f9 := kI.fr 9
    have c10 := kI.cell (i := 10) (v := .int .u32 (v % 200)) rfl
    have f10 := kI.fr 10
    have c11 := kI.cell (i := 11) (v := .int .i64 0) rfl
    have f11 := kI.fr 11
    have c12 := kI.cell (i := 12) (v := .int .i64 0) rfl
    have f12 := kI.fr 12
    have c13 := kI.cell (i := 13) (v := .int .u32 0) rfl
    have f13 := kI.fr 13
    cases nb
    all_goals
      go_wp2_with fail
      go_meet
      have eI : (iBt z (v % 200)) = ⟨opsL z, 0, oM 8, bif noB (opsL z) then oz else oI (v % 200), false, 7⟩ := rfl
      rw [hnb.out] at eI
      rw [eI]
      first
        | exact ⟨kk.out, p⟩
        | exact ⟨List.forall_mem_cons.2 ⟨((((((kI.set 8 (.int .i64 0)).set 9 (.int .i64 0)).set 10 (.int .u32 0)).set 11 (.int .i64 0)).set 12 (.int .i64 0)).set 13 (.int .u32 0)), fun x hx => (((((((kk.out x (List.mem_cons_of_mem _ hx)).other 8 (.int .i64 0) (Ne.symm (ndIT.out x hx))).other 9 (.int .i64 0) (Ne.symm (ndIT.out x hx))).other 10 (.int .u32 0) (Ne.symm (ndIT.out x hx))).other 11 (.int .i64 0) (Ne.symm (ndIT.out x hx))).other 12 (.int .i64 0) (Ne.symm (ndIT.out x hx))).other 13 (.int .u32 0) (Ne.symm (ndIT.out x hx)))⟩, p.store (((((((But.refl [IT] Wp.heap.size Wp).setCell (p := ⟨IT, 8, none⟩) (by simp) (.int .i64 0)).setCell (p := ⟨IT, 9, none⟩) (by simp) (.int .i64 0)).setCell (p := ⟨IT, 10, none⟩) (by simp) (.int .u32 0)).setCell (p := ⟨IT, 11, none⟩) (by simp) (.int .i64 0)).setCell (p := ⟨IT, 12, none⟩) (by simp) (.int .i64 0)).setCell (p := ⟨IT, 13, none⟩) (by simp) (.int .u32 0)) loIT.out⟩
  case rest =>
  obtain ⟨hk2, hp2⟩ := hcut
  replace kk := Lib.hid hk2
  replace p := hp2
  replace ol := Lib.hid (show ∀ y ∈ [(IT, 33, in16 (iBt z (v % 200))), (NO, 77, opsA), (S, 29, stA g)], y.1 ∉ [B] from List.forall_mem_cons.2 ⟨by have := loIT.out; simp; omega, fun y hy => ol.out y (List.mem_cons_of_mem _ hy)⟩)
  clear hk2 hp2 kI cI ndIT loIT
  generalize wc = Wp at *
  go_upto_region 11 with fail
  by_cases h3 : c % 4 = 3
  · have a1 := (and31 c hc).2.2.1 (by omega)
    have a3 := (and31 c hc).1 h3
    obtain ⟨gT, m1, gC, ok1, hT, hCR, hC⟩ := hA.out h3
    clear hA hB hD h3
    replace hT := Lib.hid hT
    replace hC := Lib.hid hC
    refine wp_region_seq (F := ?_) (fun _ _ => False) (fun _ _ _ _ h => h.elim) [some 58, some 59, some 60, some 61, some 57, some 62, some 63, some 64, some 13, some 14, none, none, some 15] [some (mp B), some (stV g), some (inV (iBt z (v % 200))), some (.tuple #[stV gT, fltV 0 0 0 0, .bool true]), some (.tuple #[stV gT, fltV 0 0 0 0, .bool true]), some (stV gT), some (fltV 0 0 0 0), some (.bool true), none, none, some undef, some undef, some (.bool true)] (RI (fun k W => Pg S w W B (bif k then m1 else (mG c))) B 3 13 [(IT, 33, in16 (iBt z (v % 200))), (NO, 77, opsA), (S, 29, stA g)] [⟨8, 10, 29, #[.int .u32 0, .int .u32 0, .int .u32 0, .int .u32 0, .int .u32 0, .int .u32 0, .int .u32 0, .int .u32 0, .int .u32 0, .bool false, .bool false, .bool false, .bool false, .bool false, .bool false, .bool false, .int .u64 0], stA gT⟩, ⟨9, 11, 42, #[.int .i64 0, .int .u32 0, .int .u32 0, .int .i64 0], #[.int .i64 0, .int .u32 0, .int .u32 0, .int .i64 0]⟩]) (fun _ => 0) (by kernel_rfl) (fun s => ?_) (RI.start p kk.out _) ?_ (fun s Wq h => ?_)
    rotate_left
    · simp only [vsOf, putD, Act.put, Nat.reduceAdd, List.setIfInBounds_toArray, List.set_cons_zero, List.set_cons_succ]
      rfl
    · refine AllOps.cons ?_ (AllOps.cons ?_ (AllOps.cons ?_ (AllOps.cons ?_ (AllOps.cons ?_ (AllOps.cons ?_ (AllOps.cons ?_ (AllOps.cons ?_ (AllOps.cons ?_ (AllOps.cons ?_ (AllOps.cons ?_ (AllOps.cons ?_ (AllOps.cons ?_ AllOps.nil))))))))))))
      · refine ObOp.val (fun s => mp B) (by kernel_rfl) (fun _ => rfl) (fun s => by kernel_rfl) (fun s D w hd hcl h => ?_)
        go_simp
        try rfl
      · refine ObOp.val (fun s => stV g) (by kernel_rfl) (fun _ => rfl) (fun s => by kernel_rfl) (fun s D w hd hcl h => ?_)
        exact run_load_row (by rfl) (by rfl) 29 _ (0, 0) _ (h.k _ (List.mem_cons_of_mem _ (List.mem_cons_of_mem _ List.mem_cons_self))).h Tryz.underlying29 rfl szS
      · refine ObOp.val (fun s => inV (iBt z (v % 200))) (by kernel_rfl) (fun _ => rfl) (fun s => by kernel_rfl) (fun s D w hd hcl h => ?_)
        exact run_load_in (by rfl) (by rfl) (h.k _ List.mem_cons_self)
      · refine ObOp.guest (Sx := [B]) (fun k hk => by simp at hk; omega) (fun s => .tuple #[stV gT, fltV 0 0 0 0, .bool true]) (19) (fun s => #[mp B, stV g, inV (iBt z (v % 200))]) (by kernel_rfl) ol.out (fun _ => rfl) (fun s => by kernel_rfl) (fun s D w ha h => ?_) (fun s w hg => ?_)
        · go_simp
          try rfl
        · exact hT.out.pg T0.out hS0 ok1 hg
      · refine ObOp.val (fun s => .tuple #[stV gT, fltV 0 0 0 0, .bool true]) (by kernel_rfl) (fun _ => rfl) (fun s => by kernel_rfl) (fun s D w hd hcl h => ?_)
        go_simp
        try rfl
      · refine ObOp.val (fun s => stV gT) (by kernel_rfl) (fun _ => rfl) (fun s => by kernel_rfl) (fun s D w hd hcl h => ?_)
        go_simp
        try rfl
      · refine ObOp.val (fun s => fltV 0 0 0 0) (by kernel_rfl) (fun _ => rfl) (fun s => by kernel_rfl) (fun s D w hd hcl h => ?_)
        go_simp
        try rfl
      · refine ObOp.val (fun s => .bool true) (by kernel_rfl) (fun _ => rfl) (fun s => by kernel_rfl) (fun s D w hd hcl h => ?_)
        go_simp
        try rfl
      · refine ObOp.alloc (gok13 S w B (mG c) m1) (x := ⟨8, 10, 29, #[.int .u32 0, .int .u32 0, .int .u32 0, .int .u32 0, .int .u32 0, .int .u32 0, .int .u32 0, .int .u32 0, .int .u32 0, .bool false, .bool false, .bool false, .bool false, .bool false, .bool false, .bool false, .int .u64 0], stA gT⟩) List.mem_cons_self (by kernel_rfl) (fun _ => rfl) rfl (fun s => by kernel_rfl) (fun s w => ?_)
        go_simp
        try rfl
      · refine ObOp.alloc (gok13 S w B (mG c) m1) (x := ⟨9, 11, 42, #[.int .i64 0, .int .u32 0, .int .u32 0, .int .i64 0], #[.int .i64 0, .int .u32 0, .int .u32 0, .int .i64 0]⟩) (List.mem_cons_of_mem _ List.mem_cons_self) (by kernel_rfl) (fun _ => rfl) rfl (fun s => by kernel_rfl) (fun s w => ?_)
        go_simp
        try rfl
      · refine ObOp.stores (gok13 S w B (mG c) m1) (x := ⟨8, 10, 29, #[.int .u32 0, .int .u32 0, .int .u32 0, .int .u32 0, .int .u32 0, .int .u32 0, .int .u32 0, .int .u32 0, .int .u32 0, .bool false, .bool false, .bool false, .bool false, .bool false, .bool false, .bool false, .int .u64 0], stA gT⟩) List.mem_cons_self (by kernel_rfl) (fun s => by kernel_rfl) rfl (by kernel_rfl) (fun s D w K hD hb hk => ?_)
        exact wp_store_row _ _ _ rfl (s 8) (stA gT) rfl rfl (29) (#[.int .u32 0, .int .u32 0, .int .u32 0, .int .u32 0, .int .u32 0, .int .u32 0, .int .u32 0, .int .u32 0, .int .u32 0, .bool false, .bool false, .bool false, .bool false, .bool false, .bool false, .bool false, .int .u64 0]) hb.h (by kernel_rfl) (by kernel_rfl) (by first | exact stA_all _ | simp [Value.oneCell']) hk
      · refine ObOp.stores (gok13 S w B (mG c) m1) (x := ⟨9, 11, 42, #[.int .i64 0, .int .u32 0, .int .u32 0, .int .i64 0], #[.int .i64 0, .int .u32 0, .int .u32 0, .int .i64 0]⟩) (List.mem_cons_of_mem _ List.mem_cons_self) (by kernel_rfl) (fun s => by kernel_rfl) rfl (by kernel_rfl) (fun s D w K hD hb hk => ?_)
        exact wp_store_row _ _ _ rfl (s 9) (#[.int .i64 0, .int .u32 0, .int .u32 0, .int .i64 0]) rfl rfl (42) (#[.int .i64 0, .int .u32 0, .int .u32 0, .int .i64 0]) hb.h (by kernel_rfl) (by kernel_rfl) (by first | exact stA_all _ | simp [Value.oneCell']) hk
      · refine ObOp.val (fun s => .bool true) (by kernel_rfl) (fun _ => rfl) (fun s => by kernel_rfl) (fun s D w hd hcl h => ?_)
        go_simp
        try rfl
    have z0 := h.box (x := ⟨8, 10, 29, #[.int .u32 0, .int .u32 0, .int .u32 0, .int .u32 0, .int .u32 0, .int .u32 0, .int .u32 0, .int .u32 0, .int .u32 0, .bool false, .bool false, .bool false, .bool false, .bool false, .bool false, .bool false, .int .u64 0], stA gT⟩) List.mem_cons_self rfl
    replace kk := Lib.hid (show ∀ x ∈ (s 8, 29, stA gT) :: [(IT, 33, in16 (iBt z (v % 200))), (NO, 77, opsA), (S, 29, stA g)], Blk Wq x.1 x.2.1 x.2.2 from List.forall_mem_cons.2 ⟨z0.1, h.k⟩)
    replace ol := Lib.hid (show ∀ y ∈ (s 8, 29, stA gT) :: [(IT, 33, in16 (iBt z (v % 200))), (NO, 77, opsA), (S, 29, stA g)], y.1 ∉ [B] from List.forall_mem_cons.2 ⟨by have z2 : B < s 8 := z0.2.1; simp; omega, ol.out⟩)
    replace p : Pg S w Wq B m1 := h.g
    clear h z0
    generalize s 8 = NT at *
    generalize s 9 = XT at *
    clear s Wp
    generalize Wq = Wp at *
    go_upto_region 12 with fail
    refine wp_region_inv (F := ?_) (fun _ _ => False) (fun _ _ _ _ h => h.elim) [some 66, some 67, some 68, some 69, some 70, some 71, some 72, some 65, some 73, some 74, some 75, some 16, some 17, none, none, some 18] [some (mp B), some (stV g), some (opV ⟨3, 0, 8, -1, -1, 1⟩), some (.int .u32 v), some (opV ⟨2, 0, v, 0, 0, 0⟩), some (inV (iCm v)), some (.tuple #[stV gC, fltV 0 0 0 0, .bool true]), some (.tuple #[stV gC, fltV 0 0 0 0, .bool true]), some (stV gC), some (fltV 0 0 0 0), some (.bool true), none, none, some undef, some undef, some (.bool true)] (RI (fun k W => Pg S w W B (bif k then m1 else m1)) B 6 16 [(NT, 29, stA gT), (IT, 33, in16 (iBt z (v % 200))), (NO, 77, opsA), (S, 29, stA g)] [⟨11, 13, 29, #[.int .u32 0, .int .u32 0, .int .u32 0, .int .u32 0, .int .u32 0, .int .u32 0, .int .u32 0, .int .u32 0, .int .u32 0, .bool false, .bool false, .bool false, .bool false, .bool false, .bool false, .bool false, .int .u64 0], stA gC⟩, ⟨12, 14, 42, #[.int .i64 0, .int .u32 0, .int .u32 0, .int .i64 0], #[.int .i64 0, .int .u32 0, .int .u32 0, .int .i64 0]⟩]) (fun _ => 0) (by kernel_rfl) (by kernel_rfl) (fun s => ?_) (RI.start p.drew (fun x hx => (kk.out x hx).drew) _) ?_ (fun s Wq h => ?_)
    rotate_left
    · simp only [vsOf, putD, Act.put, Nat.reduceAdd, List.setIfInBounds_toArray, List.set_cons_zero, List.set_cons_succ]
      rfl
    · refine AllOps.cons ?_ (AllOps.cons ?_ (AllOps.cons ?_ (AllOps.cons ?_ (AllOps.cons ?_ (AllOps.cons ?_ (AllOps.cons ?_ (AllOps.cons ?_ (AllOps.cons ?_ (AllOps.cons ?_ (AllOps.cons ?_ (AllOps.cons ?_ (AllOps.cons ?_ (AllOps.cons ?_ (AllOps.cons ?_ (AllOps.cons ?_ AllOps.nil)))))))))))))))
      · refine ObOp.val (fun s => mp B) (by kernel_rfl) (fun _ => rfl) (fun s => by kernel_rfl) (fun s D w hd hcl h => ?_)
        go_simp
        try rfl
      · refine ObOp.val (fun s => stV g) (by kernel_rfl) (fun _ => rfl) (fun s => by kernel_rfl) (fun s D w hd hcl h => ?_)
        exact run_load_row (by rfl) (by rfl) 29 _ (0, 0) _ (h.k _ (List.mem_cons_of_mem _ (List.mem_cons_of_mem _ (List.mem_cons_of_mem _ List.mem_cons_self)))).h Tryz.underlying29 rfl szS
      · refine ObOp.calls (gok13 S w B m1 m1) (fun s => opV ⟨3, 0, 8, -1, -1, 1⟩) (33) (fun s => #[.int .u32 8]) (by kernel_rfl) (fun _ => rfl) (fun s => by kernel_rfl) (fun s D w ha h => ?_) (fun s D w hd hcl h => ?_)
        · go_simp
          try rfl
        · exact mem13 8 _
      · refine ObOp.val (fun s => .int .u32 v) (by kernel_rfl) (fun _ => rfl) (fun s => by kernel_rfl) (fun s D w hd hcl h => ?_)
        go_simp
        try rfl
      · refine ObOp.calls (gok13 S w B m1 m1) (fun s => opV ⟨2, 0, v, 0, 0, 0⟩) (34) (fun s => #[.int .u32 v]) (by kernel_rfl) (fun _ => rfl) (fun s => by kernel_rfl) (fun s D w ha h => ?_) (fun s D w hd hcl h => ?_)
        · go_simp
          try rfl
        · exact imm13 v _
      · refine ObOp.val (fun s => inV (iCm v)) (by kernel_rfl) (fun _ => rfl) (fun s => by kernel_rfl) (fun s D w hd hcl h => ?_)
        go_simp
        exact ⟨rfl, rfl, rfl, rfl, rfl, rfl, rfl, rfl, rfl, rfl, rfl, rfl, rfl, rfl, rfl, rfl⟩
      · refine ObOp.guest (Sx := [B]) (fun k hk => by simp at hk; omega) (fun s => .tuple #[stV gC, fltV 0 0 0 0, .bool true]) (19) (fun s => #[mp B, stV g, inV (iCm v)]) (by kernel_rfl) ol.out (fun _ => rfl) (fun s => by kernel_rfl) (fun s D w ha h => ?_) (fun s w hg => ?_)
        · go_simp
          try rfl
        · exact hC.out.pg T0.out hS0 ok1 hg
      · refine ObOp.val (fun s => .tuple #[stV gC, fltV 0 0 0 0, .bool true]) (by kernel_rfl) (fun _ => rfl) (fun s => by kernel_rfl) (fun s D w hd hcl h => ?_)
        go_simp
        try rfl
      · refine ObOp.val (fun s => stV gC) (by kernel_rfl) (fun _ => rfl) (fun s => by kernel_rfl) (fun s D w hd hcl h => ?_)
        go_simp
        try rfl
      · refine ObOp.val (fun s => fltV 0 0 0 0) (by kernel_rfl) (fun _ => rfl) (fun s => by kernel_rfl) (fun s D w hd hcl h => ?_)
        go_simp
        try rfl
      · refine ObOp.val (fun s => .bool true) (by kernel_rfl) (fun _ => rfl) (fun s => by kernel_rfl) (fun s D w hd hcl h => ?_)
        go_simp
        try rfl
      · refine ObOp.alloc (gok13 S w B m1 m1) (x := ⟨11, 13, 29, #[.int .u32 0, .int .u32 0, .int .u32 0, .int .u32 0, .int .u32 0, .int .u32 0, .int .u32 0, .int .u32 0, .int .u32 0, .bool false, .bool false, .bool false, .bool false, .bool false, .bool false, .bool false, .int .u64 0], stA gC⟩) List.mem_cons_self (by kernel_rfl) (fun _ => rfl) rfl (fun s => by kernel_rfl) (fun s w => ?_)
        go_simp
        try rfl
      · refine ObOp.alloc (gok13 S w B m1 m1) (x := ⟨12, 14, 42, #[.int .i64 0, .int .u32 0, .int .u32 0, .int .i64 0], #[.int .i64 0, .int .u32 0, .int .u32 0, .int .i64 0]⟩) (List.mem_cons_of_mem _ List.mem_cons_self) (by kernel_rfl) (fun _ => rfl) rfl (fun s => by kernel_rfl) (fun s w => ?_)
        go_simp
        try rfl
      · refine ObOp.stores (gok13 S w B m1 m1) (x := ⟨11, 13, 29, #[.int .u32 0, .int .u32 0, .int .u32 0, .int .u32 0, .int .u32 0, .int .u32 0, .int .u32 0, .int .u32 0, .int .u32 0, .bool false, .bool false, .bool false, .bool false, .bool false, .bool false, .bool false, .int .u64 0], stA gC⟩) List.mem_cons_self (by kernel_rfl) (fun s => by kernel_rfl) rfl (by kernel_rfl) (fun s D w K hD hb hk => ?_)
        exact wp_store_row _ _ _ rfl (s 11) (stA gC) rfl rfl (29) (#[.int .u32 0, .int .u32 0, .int .u32 0, .int .u32 0, .int .u32 0, .int .u32 0, .int .u32 0, .int .u32 0, .int .u32 0, .bool false, .bool false, .bool false, .bool false, .bool false, .bool false, .bool false, .int .u64 0]) hb.h (by kernel_rfl) (by kernel_rfl) (by first | exact stA_all _ | simp [Value.oneCell']) hk
      · refine ObOp.stores (gok13 S w B m1 m1) (x := ⟨12, 14, 42, #[.int .i64 0, .int .u32 0, .int .u32 0, .int .i64 0], #[.int .i64 0, .int .u32 0, .int .u32 0, .int .i64 0]⟩) (List.mem_cons_of_mem _ List.mem_cons_self) (by kernel_rfl) (fun s => by kernel_rfl) rfl (by kernel_rfl) (fun s D w K hD hb hk => ?_)
        exact wp_store_row _ _ _ rfl (s 12) (#[.int .i64 0, .int .u32 0, .int .u32 0, .int .i64 0]) rfl rfl (42) (#[.int .i64 0, .int .u32 0, .int .u32 0, .int .i64 0]) hb.h (by kernel_rfl) (by kernel_rfl) (by first | exact stA_all _ | simp [Value.oneCell']) hk
      · refine ObOp.val (fun s => .bool true) (by kernel_rfl) (fun _ => rfl) (fun s => by kernel_rfl) (fun s D w hd hcl h => ?_)
        go_simp
        try rfl
    have z0 := h.box (x := ⟨11, 13, 29, #[.int .u32 0, .int .u32 0, .int .u32 0, .int .u32 0, .int .u32 0, .int .u32 0, .int .u32 0, .int .u32 0, .int .u32 0, .bool false, .bool false, .bool false, .bool false, .bool false, .bool false, .bool false, .int .u64 0], stA gC⟩) List.mem_cons_self rfl
    replace kk := Lib.hid (show ∀ x ∈ (s 11, 29, stA gC) :: [(NT, 29, stA gT), (IT, 33, in16 (iBt z (v % 200))), (NO, 77, opsA), (S, 29, stA g)], Blk Wq x.1 x.2.1 x.2.2 from List.forall_mem_cons.2 ⟨z0.1, h.k⟩)
    replace ol := Lib.hid (show ∀ y ∈ (s 11, 29, stA gC) :: [(NT, 29, stA gT), (IT, 33, in16 (iBt z (v % 200))), (NO, 77, opsA), (S, 29, stA g)], y.1 ∉ [B] from List.forall_mem_cons.2 ⟨by have z2 : B < s 11 := z0.2.1; simp; omega, ol.out⟩)
    replace p : Pg S w Wq B m1 := h.g
    clear h z0
    generalize s 11 = NC at *
    generalize s 12 = XC at *
    clear s Wp
    generalize Wq = Wp at *
    go_upto_region 17 with fail
    refine wp_region_seq (F := ?_) (fun _ _ => False) (fun _ _ _ _ h => h.elim) [some 82, some 83, some 84, some 85, some 86, some 87, some 88, some 89, some 90, some 91, some 92, some 93, some 94, some 95, some 96, some 97, some 98, some 99, some 100, some 101] [some (.bool true), some (.bool true), some (.bool false), some (.bool false), some (.bool true), some (.bool false), some (.bool false), some (undef), some (undef), some (undef), some (undef), some (undef), some (undef), some (undef), some (undef), some (undef), some (undef), some (undef), some (.bool false), some (.bool false)] (RI (fun _ W => Pg S w W B m1) B 20 20 [(NC, 29, stA gC), (NT, 29, stA gT), (IT, 33, in16 (iBt z (v % 200))), (NO, 77, opsA), (S, 29, stA g)] []) (fun _ => 0) (by kernel_rfl) (fun s => ?_) (RI.start p kk.out _) ?_ (fun s Wq h => ?_)
    rotate_left
    · simp only [vsOf, putD, Act.put, Nat.reduceAdd, List.setIfInBounds_toArray, List.set_cons_zero, List.set_cons_succ]
      rfl
    · refine AllOps.cons ?_ (AllOps.cons ?_ (AllOps.cons ?_ (AllOps.cons ?_ (AllOps.cons ?_ (AllOps.cons ?_ (AllOps.cons ?_ (AllOps.cons ?_ (AllOps.cons ?_ (AllOps.cons ?_ (AllOps.cons ?_ (AllOps.cons ?_ (AllOps.cons ?_ (AllOps.cons ?_ (AllOps.cons ?_ (AllOps.cons ?_ (AllOps.cons ?_ (AllOps.cons ?_ (AllOps.cons ?_ (AllOps.cons ?_ AllOps.nil)))))))))))))))))))
      · refine ObOp.val (fun s => .bool true) (by kernel_rfl) (fun _ => rfl) (fun s => by kernel_rfl) (fun s D w hd hcl h => ?_)
        go_simp
        try rfl
      · refine ObOp.val (fun s => .bool true) (by kernel_rfl) (fun _ => rfl) (fun s => by kernel_rfl) (fun s D w hd hcl h => ?_)
        go_simp
        try rfl
      · refine ObOp.val (fun s => .bool false) (by kernel_rfl) (fun _ => rfl) (fun s => by kernel_rfl) (fun s D w hd hcl h => ?_)
        go_simp
        try rfl
      · refine ObOp.val (fun s => .bool false) (by kernel_rfl) (fun _ => rfl) (fun s => by kernel_rfl) (fun s D w hd hcl h => ?_)
        go_simp
        try rfl
      · refine ObOp.val (fun s => .bool true) (by kernel_rfl) (fun _ => rfl) (fun s => by kernel_rfl) (fun s D w hd hcl h => ?_)
        go_simp
        try rfl
      · refine ObOp.val (fun s => .bool false) (by kernel_rfl) (fun _ => rfl) (fun s => by kernel_rfl) (fun s D w hd hcl h => ?_)
        go_simp
        try rfl
      · refine ObOp.val (fun s => .bool false) (by kernel_rfl) (fun _ => rfl) (fun s => by kernel_rfl) (fun s D w hd hcl h => ?_)
        go_simp
        try rfl
      · exact ObOp.skip (by kernel_rfl) (fun _ => rfl) (fun s => by kernel_rfl)
      · exact ObOp.skip (by kernel_rfl) (fun _ => rfl) (fun s => by kernel_rfl)
      · exact ObOp.skip (by kernel_rfl) (fun _ => rfl) (fun s => by kernel_rfl)
      · exact ObOp.skip (by kernel_rfl) (fun _ => rfl) (fun s => by kernel_rfl)
      · exact ObOp.skip (by kernel_rfl) (fun _ => rfl) (fun s => by kernel_rfl)
      · exact ObOp.skip (by kernel_rfl) (fun _ => rfl) (fun s => by kernel_rfl)
      · exact ObOp.skip (by kernel_rfl) (fun _ => rfl) (fun s => by kernel_rfl)
      · exact ObOp.skip (by kernel_rfl) (fun _ => rfl) (fun s => by kernel_rfl)
      · exact ObOp.skip (by kernel_rfl) (fun _ => rfl) (fun s => by kernel_rfl)
      · exact ObOp.skip (by kernel_rfl) (fun _ => rfl) (fun s => by kernel_rfl)
      · exact ObOp.skip (by kernel_rfl) (fun _ => rfl) (fun s => by kernel_rfl)
      · refine ObOp.val (fun s => .bool false) (by kernel_rfl) (fun _ => rfl) (fun s => by kernel_rfl) (fun s D w hd hcl h => ?_)
        go_simp
        try rfl
      · refine ObOp.val (fun s => .bool false) (by kernel_rfl) (fun _ => rfl) (fun s => by kernel_rfl) (fun s D w hd hcl h => ?_)
        go_simp
        try rfl
    replace kk := Lib.hid (show ∀ x ∈ [(NC, 29, stA gC), (NT, 29, stA gT), (IT, 33, in16 (iBt z (v % 200))), (NO, 77, opsA), (S, 29, stA g)], Blk Wq x.1 x.2.1 x.2.2 from h.k)
    replace p : Pg S w Wq B m1 := h.g
    clear h s Wp
    generalize Wq = Wp at *
    go_upto_region 19 with fail
    refine wp_region_seq (F := ?_) (fun _ _ => False) (fun _ _ _ _ h => h.elim) [some 102, some 103, some 104, some 105, some 106, some 107, some 108, some 109, some 110, some 111, some 112, some 113, some 114, some 115, some 116, some 117, some 118, some 119, some 120, some 121, some 122, some 123, some 124, some 125, some 126, some 127, some 128, some 129, some 130, some 8] [some (.bool true), some (.int .i64 c), some (.int .i64 1), some (.bool true), some (.bool true), some (.bool true), some (.bool true), some (.bool true), some (.pointer (some ⟨NC, 0, none⟩)), some (.agg (cells8 gC.r)), some (.pointer (some ⟨S, 0, none⟩)), some (.agg (cells8 g.r)), some (.bool true), some (.bool true), some (.bool true), some (undef), some (undef), some (undef), some (undef), some (undef), some (undef), some (undef), some (undef), some (undef), some (undef), some (undef), some (undef), some (.bool true), some (.bool true), some (.bool true)] (RI (fun _ W => Pg S w W B m1) B 30 30 [(NC, 29, stA gC), (NT, 29, stA gT), (IT, 33, in16 (iBt z (v % 200))), (NO, 77, opsA), (S, 29, stA g)] []) (fun _ => 0) (by kernel_rfl) (fun s => ?_) (RI.start p kk.out _) ?_ (fun s Wq h => ?_)
    rotate_left
    · simp only [vsOf, putD, Act.put, Nat.reduceAdd, List.setIfInBounds_toArray, List.set_cons_zero, List.set_cons_succ]
      rfl
    · refine AllOps.cons ?_ (AllOps.cons ?_ (AllOps.cons ?_ (AllOps.cons ?_ (AllOps.cons ?_ (AllOps.cons ?_ (AllOps.cons ?_ (AllOps.cons ?_ (AllOps.cons ?_ (AllOps.cons ?_ (AllOps.cons ?_ (AllOps.cons ?_ (AllOps.cons ?_ (AllOps.cons ?_ (AllOps.cons ?_ (AllOps.cons ?_ (AllOps.cons ?_ (AllOps.cons ?_ (AllOps.cons ?_ (AllOps.cons ?_ (AllOps.cons ?_ (AllOps.cons ?_ (AllOps.cons ?_ (AllOps.cons ?_ (AllOps.cons ?_ (AllOps.cons ?_ (AllOps.cons ?_ (AllOps.cons ?_ (AllOps.cons ?_ (AllOps.cons ?_ AllOps.nil)))))))))))))))))))))))))))))
      · refine ObOp.val (fun s => .bool true) (by kernel_rfl) (fun _ => rfl) (fun s => by kernel_rfl) (fun s D w hd hcl h => ?_)
        go_simp
        try rfl
      · refine ObOp.val (fun s => .int .i64 c) (by kernel_rfl) (fun _ => rfl) (fun s => by kernel_rfl) (fun s D w hd hcl h => ?_)
        go_simp
        try rfl
      · refine ObOp.val (fun s => .int .i64 1) (by kernel_rfl) (fun _ => rfl) (fun s => by kernel_rfl) (fun s D w hd hcl h => ?_)
        go_simp
        try first | exact a1
      · refine ObOp.val (fun s => .bool true) (by kernel_rfl) (fun _ => rfl) (fun s => by kernel_rfl) (fun s D w hd hcl h => ?_)
        go_simp
        try rfl
      · refine ObOp.val (fun s => .bool true) (by kernel_rfl) (fun _ => rfl) (fun s => by kernel_rfl) (fun s D w hd hcl h => ?_)
        go_simp
        try rfl
      · refine ObOp.val (fun s => .bool true) (by kernel_rfl) (fun _ => rfl) (fun s => by kernel_rfl) (fun s D w hd hcl h => ?_)
        go_simp
        try rfl
      · refine ObOp.val (fun s => .bool true) (by kernel_rfl) (fun _ => rfl) (fun s => by kernel_rfl) (fun s D w hd hcl h => ?_)
        go_simp
        try rfl
      · refine ObOp.val (fun s => .bool true) (by kernel_rfl) (fun _ => rfl) (fun s => by kernel_rfl) (fun s D w hd hcl h => ?_)
        go_simp
        try rfl
      · refine ObOp.val (fun s => .pointer (some ⟨NC, 0, none⟩)) (by kernel_rfl) (fun _ => rfl) (fun s => by kernel_rfl) (fun s D w hd hcl h => ?_)
        go_simp
        try rfl
      · refine ObOp.val (fun s => .agg (cells8 gC.r)) (by kernel_rfl) (fun _ => rfl) (fun s => by kernel_rfl) (fun s D w hd hcl h => ?_)
        exact run_load_mid (by rfl) (by rfl) _ _ (Blk.rangeR (h.k _ List.mem_cons_self)) Tryz.underlying24 rfl (by kernel_rfl)
      · refine ObOp.val (fun s => .pointer (some ⟨S, 0, none⟩)) (by kernel_rfl) (fun _ => rfl) (fun s => by kernel_rfl) (fun s D w hd hcl h => ?_)
        go_simp
        try rfl
      · refine ObOp.val (fun s => .agg (cells8 g.r)) (by kernel_rfl) (fun _ => rfl) (fun s => by kernel_rfl) (fun s D w hd hcl h => ?_)
        exact run_load_mid (by rfl) (by rfl) _ _ (Blk.rangeR (h.k _ (List.mem_cons_of_mem _ (List.mem_cons_of_mem _ (List.mem_cons_of_mem _ (List.mem_cons_of_mem _ List.mem_cons_self)))))) Tryz.underlying24 rfl (by kernel_rfl)
      · refine ObOp.val (fun s => .bool true) (by kernel_rfl) (fun _ => rfl) (fun s => by kernel_rfl) (fun s D w hd hcl h => ?_)
        rw [hCR]
        exact run_eqR (by rfl) g.r rfl rfl
      · refine ObOp.val (fun s => .bool true) (by kernel_rfl) (fun _ => rfl) (fun s => by kernel_rfl) (fun s D w hd hcl h => ?_)
        go_simp
        try rfl
      · refine ObOp.val (fun s => .bool true) (by kernel_rfl) (fun _ => rfl) (fun s => by kernel_rfl) (fun s D w hd hcl h => ?_)
        go_simp
        try rfl
      · exact ObOp.skip (by kernel_rfl) (fun _ => rfl) (fun s => by kernel_rfl)
      · exact ObOp.skip (by kernel_rfl) (fun _ => rfl) (fun s => by kernel_rfl)
      · exact ObOp.skip (by kernel_rfl) (fun _ => rfl) (fun s => by kernel_rfl)
      · exact ObOp.skip (by kernel_rfl) (fun _ => rfl) (fun s => by kernel_rfl)
      · exact ObOp.skip (by kernel_rfl) (fun _ => rfl) (fun s => by kernel_rfl)
      · exact ObOp.skip (by kernel_rfl) (fun _ => rfl) (fun s => by kernel_rfl)
      · exact ObOp.skip (by kernel_rfl) (fun _ => rfl) (fun s => by kernel_rfl)
      · exact ObOp.skip (by kernel_rfl) (fun _ => rfl) (fun s => by kernel_rfl)
      · exact ObOp.skip (by kernel_rfl) (fun _ => rfl) (fun s => by kernel_rfl)
      · exact ObOp.skip (by kernel_rfl) (fun _ => rfl) (fun s => by kernel_rfl)
      · exact ObOp.skip (by kernel_rfl) (fun _ => rfl) (fun s => by kernel_rfl)
      · exact ObOp.skip (by kernel_rfl) (fun _ => rfl) (fun s => by kernel_rfl)
      · refine ObOp.val (fun s => .bool true) (by kernel_rfl) (fun _ => rfl) (fun s => by kernel_rfl) (fun s D w hd hcl h => ?_)
        go_simp
        try rfl
      · refine ObOp.val (fun s => .bool true) (by kernel_rfl) (fun _ => rfl) (fun s => by kernel_rfl) (fun s D w hd hcl h => ?_)
        go_simp
        try rfl
      · refine ObOp.val (fun s => .bool true) (by kernel_rfl) (fun _ => rfl) (fun s => by kernel_rfl) (fun s D w hd hcl h => ?_)
        go_simp
        try rfl
    go_wp2_with fail
    exact bodyPost_ret (v := .bool true) (by simp [results, Tryz.results13, go_sem]) rfl ⟨rfl, by rw [hS0]; exact h.g.done⟩
  · have a3 := (and31 c hc).2.1 h3
    by_cases h1 : c % 2 = 1
    · have a1 := (and31 c hc).2.2.1 h1
      obtain ⟨gC, hT, hCR, hC⟩ := hB.out h3 h1
      clear hA hB hD h3 h1
      replace hT := Lib.hid hT
      replace hC := Lib.hid hC
      refine wp_region_seq (F := ?_) (fun _ _ => False) (fun _ _ _ _ h => h.elim) [some 58, some 59, some 60, some 61, some 57, some 62, some 63, some 64, some 13, some 14, none, none, some 15] [some (mp B), some (stV g), some (inV (iBt z (v % 200))), some (.tuple #[stV g, fltV 1 g.pc 8 2, .bool false]), some (.tuple #[stV g, fltV 1 g.pc 8 2, .bool false]), some (stV g), some (fltV 1 g.pc 8 2), some (.bool false), none, none, some undef, some undef, some (.bool false)] (RI (fun k W => Pg S w W B (bif k then (mG c) else (mG c))) B 3 13 [(IT, 33, in16 (iBt z (v % 200))), (NO, 77, opsA), (S, 29, stA g)] [⟨8, 10, 29, #[.int .u32 0, .int .u32 0, .int .u32 0, .int .u32 0, .int .u32 0, .int .u32 0, .int .u32 0, .int .u32 0, .int .u32 0, .bool false, .bool false, .bool false, .bool false, .bool false, .bool false, .bool false, .int .u64 0], stA g⟩, ⟨9, 11, 42, #[.int .i64 0, .int .u32 0, .int .u32 0, .int .i64 0], #[.int .i64 1, .int .u32 g.pc, .int .u32 8, .int .i64 2]⟩]) (fun _ => 0) (by kernel_rfl) (fun s => ?_) (RI.start p kk.out _) ?_ (fun s Wq h => ?_)
      rotate_left
      · simp only [vsOf, putD, Act.put, Nat.reduceAdd, List.setIfInBounds_toArray, List.set_cons_zero, List.set_cons_succ]
        rfl
      · refine AllOps.cons ?_ (AllOps.cons ?_ (AllOps.cons ?_ (AllOps.cons ?_ (AllOps.cons ?_ (AllOps.cons ?_ (AllOps.cons ?_ (AllOps.cons ?_ (AllOps.cons ?_ (AllOps.cons ?_ (AllOps.cons ?_ (AllOps.cons ?_ (AllOps.cons ?_ AllOps.nil))))))))))))
        · refine ObOp.val (fun s => mp B) (by kernel_rfl) (fun _ => rfl) (fun s => by kernel_rfl) (fun s D w hd hcl h => ?_)
          go_simp
          try rfl
        · refine ObOp.val (fun s => stV g) (by kernel_rfl) (fun _ => rfl) (fun s => by kernel_rfl) (fun s D w hd hcl h => ?_)
          exact run_load_row (by rfl) (by rfl) 29 _ (0, 0) _ (h.k _ (List.mem_cons_of_mem _ (List.mem_cons_of_mem _ List.mem_cons_self))).h Tryz.underlying29 rfl szS
        · refine ObOp.val (fun s => inV (iBt z (v % 200))) (by kernel_rfl) (fun _ => rfl) (fun s => by kernel_rfl) (fun s D w hd hcl h => ?_)
          exact run_load_in (by rfl) (by rfl) (h.k _ List.mem_cons_self)
        · refine ObOp.guest (Sx := [B]) (fun k hk => by simp at hk; omega) (fun s => .tuple #[stV g, fltV 1 g.pc 8 2, .bool false]) (19) (fun s => #[mp B, stV g, inV (iBt z (v % 200))]) (by kernel_rfl) ol.out (fun _ => rfl) (fun s => by kernel_rfl) (fun s D w ha h => ?_) (fun s w hg => ?_)
          · go_simp
            try rfl
          · exact hT.out.pg T0.out hS0 hg
        · refine ObOp.val (fun s => .tuple #[stV g, fltV 1 g.pc 8 2, .bool false]) (by kernel_rfl) (fun _ => rfl) (fun s => by kernel_rfl) (fun s D w hd hcl h => ?_)
          go_simp
          try rfl
        · refine ObOp.val (fun s => stV g) (by kernel_rfl) (fun _ => rfl) (fun s => by kernel_rfl) (fun s D w hd hcl h => ?_)
          go_simp
          try rfl
        · refine ObOp.val (fun s => fltV 1 g.pc 8 2) (by kernel_rfl) (fun _ => rfl) (fun s => by kernel_rfl) (fun s D w hd hcl h => ?_)
          go_simp
          try rfl
        · refine ObOp.val (fun s => .bool false) (by kernel_rfl) (fun _ => rfl) (fun s => by kernel_rfl) (fun s D w hd hcl h => ?_)
          go_simp
          try rfl
        · refine ObOp.alloc (gok13 S w B (mG c) (mG c)) (x := ⟨8, 10, 29, #[.int .u32 0, .int .u32 0, .int .u32 0, .int .u32 0, .int .u32 0, .int .u32 0, .int .u32 0, .int .u32 0, .int .u32 0, .bool false, .bool false, .bool false, .bool false, .bool false, .bool false, .bool false, .int .u64 0], stA g⟩) List.mem_cons_self (by kernel_rfl) (fun _ => rfl) rfl (fun s => by kernel_rfl) (fun s w => ?_)
          go_simp
          try rfl
        · refine ObOp.alloc (gok13 S w B (mG c) (mG c)) (x := ⟨9, 11, 42, #[.int .i64 0, .int .u32 0, .int .u32 0, .int .i64 0], #[.int .i64 1, .int .u32 g.pc, .int .u32 8, .int .i64 2]⟩) (List.mem_cons_of_mem _ List.mem_cons_self) (by kernel_rfl) (fun _ => rfl) rfl (fun s => by kernel_rfl) (fun s w => ?_)
          go_simp
          try rfl
        · refine ObOp.stores (gok13 S w B (mG c) (mG c)) (x := ⟨8, 10, 29, #[.int .u32 0, .int .u32 0, .int .u32 0, .int .u32 0, .int .u32 0, .int .u32 0, .int .u32 0, .int .u32 0, .int .u32 0, .bool false, .bool false, .bool false, .bool false, .bool false, .bool false, .bool false, .int .u64 0], stA g⟩) List.mem_cons_self (by kernel_rfl) (fun s => by kernel_rfl) rfl (by kernel_rfl) (fun s D w K hD hb hk => ?_)
          exact wp_store_row _ _ _ rfl (s 8) (stA g) rfl rfl (29) (#[.int .u32 0, .int .u32 0, .int .u32 0, .int .u32 0, .int .u32 0, .int .u32 0, .int .u32 0, .int .u32 0, .int .u32 0, .bool false, .bool false, .bool false, .bool false, .bool false, .bool false, .bool false, .int .u64 0]) hb.h (by kernel_rfl) (by kernel_rfl) (by first | exact stA_all _ | simp [Value.oneCell']) hk
        · refine ObOp.stores (gok13 S w B (mG c) (mG c)) (x := ⟨9, 11, 42, #[.int .i64 0, .int .u32 0, .int .u32 0, .int .i64 0], #[.int .i64 1, .int .u32 g.pc, .int .u32 8, .int .i64 2]⟩) (List.mem_cons_of_mem _ List.mem_cons_self) (by kernel_rfl) (fun s => by kernel_rfl) rfl (by kernel_rfl) (fun s D w K hD hb hk => ?_)
          exact wp_store_row _ _ _ rfl (s 9) (#[.int .i64 1, .int .u32 g.pc, .int .u32 8, .int .i64 2]) rfl rfl (42) (#[.int .i64 0, .int .u32 0, .int .u32 0, .int .i64 0]) hb.h (by kernel_rfl) (by kernel_rfl) (by first | exact stA_all _ | simp [Value.oneCell']) hk
        · refine ObOp.val (fun s => .bool false) (by kernel_rfl) (fun _ => rfl) (fun s => by kernel_rfl) (fun s D w hd hcl h => ?_)
          go_simp
          try rfl
      have z1 := h.box (x := ⟨9, 11, 42, #[.int .i64 0, .int .u32 0, .int .u32 0, .int .i64 0], #[.int .i64 1, .int .u32 g.pc, .int .u32 8, .int .i64 2]⟩) (List.mem_cons_of_mem _ List.mem_cons_self) rfl
      have z0 := h.box (x := ⟨8, 10, 29, #[.int .u32 0, .int .u32 0, .int .u32 0, .int .u32 0, .int .u32 0, .int .u32 0, .int .u32 0, .int .u32 0, .int .u32 0, .bool false, .bool false, .bool false, .bool false, .bool false, .bool false, .bool false, .int .u64 0], stA g⟩) List.mem_cons_self rfl
      replace kk := Lib.hid (show ∀ x ∈ (s 8, 29, stA g) :: (s 9, 42, #[.int .i64 1, .int .u32 g.pc, .int .u32 8, .int .i64 2]) :: [(IT, 33, in16 (iBt z (v % 200))), (NO, 77, opsA), (S, 29, stA g)], Blk Wq x.1 x.2.1 x.2.2 from List.forall_mem_cons.2 ⟨z0.1, List.forall_mem_cons.2 ⟨z1.1, h.k⟩⟩)
      replace ol := Lib.hid (show ∀ y ∈ (s 8, 29, stA g) :: (s 9, 42, #[.int .i64 1, .int .u32 g.pc, .int .u32 8, .int .i64 2]) :: [(IT, 33, in16 (iBt z (v % 200))), (NO, 77, opsA), (S, 29, stA g)], y.1 ∉ [B] from List.forall_mem_cons.2 ⟨by have z2 : B < s 8 := z0.2.1; simp; omega, List.forall_mem_cons.2 ⟨by have z2 : B < s 9 := z1.2.1; simp; omega, ol.out⟩⟩)
      replace p : Pg S w Wq B (mG c) := h.g
      clear h z0 z1
      generalize s 8 = NT at *
      generalize s 9 = XT at *
      clear s Wp
      generalize Wq = Wp at *
      go_upto_region 12 with fail
      refine wp_region_inv (F := ?_) (fun _ _ => False) (fun _ _ _ _ h => h.elim) [some 66, some 67, some 68, some 69, some 70, some 71, some 72, some 65, some 73, some 74, some 75, some 16, some 17, none, none, some 18] [some (mp B), some (stV g), some (opV ⟨3, 0, 8, -1, -1, 1⟩), some (.int .u32 v), some (opV ⟨2, 0, v, 0, 0, 0⟩), some (inV (iCm v)), some (.tuple #[stV gC, fltV 0 0 0 0, .bool true]), some (.tuple #[stV gC, fltV 0 0 0 0, .bool true]), some (stV gC), some (fltV 0 0 0 0), some (.bool true), none, none, some undef, some undef, some (.bool true)] (RI (fun k W => Pg S w W B (bif k then (mG c) else (mG c))) B 6 16 [(NT, 29, stA g), (XT, 42, #[.int .i64 1, .int .u32 g.pc, .int .u32 8, .int .i64 2]), (IT, 33, in16 (iBt z (v % 200))), (NO, 77, opsA), (S, 29, stA g)] [⟨11, 13, 29, #[.int .u32 0, .int .u32 0, .int .u32 0, .int .u32 0, .int .u32 0, .int .u32 0, .int .u32 0, .int .u32 0, .int .u32 0, .bool false, .bool false, .bool false, .bool false, .bool false, .bool false, .bool false, .int .u64 0], stA gC⟩, ⟨12, 14, 42, #[.int .i64 0, .int .u32 0, .int .u32 0, .int .i64 0], #[.int .i64 0, .int .u32 0, .int .u32 0, .int .i64 0]⟩]) (fun _ => 0) (by kernel_rfl) (by kernel_rfl) (fun s => ?_) (RI.start p.drew (fun x hx => (kk.out x hx).drew) _) ?_ (fun s Wq h => ?_)
      rotate_left
      · simp only [vsOf, putD, Act.put, Nat.reduceAdd, List.setIfInBounds_toArray, List.set_cons_zero, List.set_cons_succ]
        rfl
      · refine AllOps.cons ?_ (AllOps.cons ?_ (AllOps.cons ?_ (AllOps.cons ?_ (AllOps.cons ?_ (AllOps.cons ?_ (AllOps.cons ?_ (AllOps.cons ?_ (AllOps.cons ?_ (AllOps.cons ?_ (AllOps.cons ?_ (AllOps.cons ?_ (AllOps.cons ?_ (AllOps.cons ?_ (AllOps.cons ?_ (AllOps.cons ?_ AllOps.nil)))))))))))))))
        · refine ObOp.val (fun s => mp B) (by kernel_rfl) (fun _ => rfl) (fun s => by kernel_rfl) (fun s D w hd hcl h => ?_)
          go_simp
          try rfl
        · refine ObOp.val (fun s => stV g) (by kernel_rfl) (fun _ => rfl) (fun s => by kernel_rfl) (fun s D w hd hcl h => ?_)
          exact run_load_row (by rfl) (by rfl) 29 _ (0, 0) _ (h.k _ (List.mem_cons_of_mem _ (List.mem_cons_of_mem _ (List.mem_cons_of_mem _ (List.mem_cons_of_mem _ List.mem_cons_self))))).h Tryz.underlying29 rfl szS
        · refine ObOp.calls (gok13 S w B (mG c) (mG c)) (fun s => opV ⟨3, 0, 8, -1, -1, 1⟩) (33) (fun s => #[.int .u32 8]) (by kernel_rfl) (fun _ => rfl) (fun s => by kernel_rfl) (fun s D w ha h => ?_) (fun s D w hd hcl h => ?_)
          · go_simp
            try rfl
          · exact mem13 8 _
        · refine ObOp.val (fun s => .int .u32 v) (by kernel_rfl) (fun _ => rfl) (fun s => by kernel_rfl) (fun s D w hd hcl h => ?_)
          go_simp
          try rfl
        · refine ObOp.calls (gok13 S w B (mG c) (mG c)) (fun s => opV ⟨2, 0, v, 0, 0, 0⟩) (34) (fun s => #[.int .u32 v]) (by kernel_rfl) (fun _ => rfl) (fun s => by kernel_rfl) (fun s D w ha h => ?_) (fun s D w hd hcl h => ?_)
          · go_simp
            try rfl
          · exact imm13 v _
        · refine ObOp.val (fun s => inV (iCm v)) (by kernel_rfl) (fun _ => rfl) (fun s => by kernel_rfl) (fun s D w hd hcl h => ?_)
          go_simp
          exact ⟨rfl, rfl, rfl, rfl, rfl, rfl, rfl, rfl, rfl, rfl, rfl, rfl, rfl, rfl, rfl, rfl⟩
        · refine ObOp.guest (Sx := [B]) (fun k hk => by simp at hk; omega) (fun s => .tuple #[stV gC, fltV 0 0 0 0, .bool true]) (19) (fun s => #[mp B, stV g, inV (iCm v)]) (by kernel_rfl) ol.out (fun _ => rfl) (fun s => by kernel_rfl) (fun s D w ha h => ?_) (fun s w hg => ?_)
          · go_simp
            try rfl
          · exact hC.out.pg T0.out hS0 (mG_ok c) hg
        · refine ObOp.val (fun s => .tuple #[stV gC, fltV 0 0 0 0, .bool true]) (by kernel_rfl) (fun _ => rfl) (fun s => by kernel_rfl) (fun s D w hd hcl h => ?_)
          go_simp
          try rfl
        · refine ObOp.val (fun s => stV gC) (by kernel_rfl) (fun _ => rfl) (fun s => by kernel_rfl) (fun s D w hd hcl h => ?_)
          go_simp
          try rfl
        · refine ObOp.val (fun s => fltV 0 0 0 0) (by kernel_rfl) (fun _ => rfl) (fun s => by kernel_rfl) (fun s D w hd hcl h => ?_)
          go_simp
          try rfl
        · refine ObOp.val (fun s => .bool true) (by kernel_rfl) (fun _ => rfl) (fun s => by kernel_rfl) (fun s D w hd hcl h => ?_)
          go_simp
          try rfl
        · refine ObOp.alloc (gok13 S w B (mG c) (mG c)) (x := ⟨11, 13, 29, #[.int .u32 0, .int .u32 0, .int .u32 0, .int .u32 0, .int .u32 0, .int .u32 0, .int .u32 0, .int .u32 0, .int .u32 0, .bool false, .bool false, .bool false, .bool false, .bool false, .bool false, .bool false, .int .u64 0], stA gC⟩) List.mem_cons_self (by kernel_rfl) (fun _ => rfl) rfl (fun s => by kernel_rfl) (fun s w => ?_)
          go_simp
          try rfl
        · refine ObOp.alloc (gok13 S w B (mG c) (mG c)) (x := ⟨12, 14, 42, #[.int .i64 0, .int .u32 0, .int .u32 0, .int .i64 0], #[.int .i64 0, .int .u32 0, .int .u32 0, .int .i64 0]⟩) (List.mem_cons_of_mem _ List.mem_cons_self) (by kernel_rfl) (fun _ => rfl) rfl (fun s => by kernel_rfl) (fun s w => ?_)
          go_simp
          try rfl
        · refine ObOp.stores (gok13 S w B (mG c) (mG c)) (x := ⟨11, 13, 29, #[.int .u32 0, .int .u32 0, .int .u32 0, .int .u32 0, .int .u32 0, .int .u32 0, .int .u32 0, .int .u32 0, .int .u32 0, .bool false, .bool false, .bool false, .bool false, .bool false, .bool false, .bool false, .int .u64 0], stA gC⟩) List.mem_cons_self (by kernel_rfl) (fun s => by kernel_rfl) rfl (by kernel_rfl) (fun s D w K hD hb hk => ?_)
          exact wp_store_row _ _ _ rfl (s 11) (stA gC) rfl rfl (29) (#[.int .u32 0, .int .u32 0, .int .u32 0, .int .u32 0, .int .u32 0, .int .u32 0, .int .u32 0, .int .u32 0, .int .u32 0, .bool false, .bool false, .bool false, .bool false, .bool false, .bool false, .bool false, .int .u64 0]) hb.h (by kernel_rfl) (by kernel_rfl) (by first | exact stA_all _ | simp [Value.oneCell']) hk
        · refine ObOp.stores (gok13 S w B (mG c) (mG c)) (x := ⟨12, 14, 42, #[.int .i64 0, .int .u32 0, .int .u32 0, .int .i64 0], #[.int .i64 0, .int .u32 0, .int .u32 0, .int .i64 0]⟩) (List.mem_cons_of_mem _ List.mem_cons_self) (by kernel_rfl) (fun s => by kernel_rfl) rfl (by kernel_rfl) (fun s D w K hD hb hk => ?_)
          exact wp_store_row _ _ _ rfl (s 12) (#[.int .i64 0, .int .u32 0, .int .u32 0, .int .i64 0]) rfl rfl (42) (#[.int .i64 0, .int .u32 0, .int .u32 0, .int .i64 0]) hb.h (by kernel_rfl) (by kernel_rfl) (by first | exact stA_all _ | simp [Value.oneCell']) hk
        · refine ObOp.val (fun s => .bool true) (by kernel_rfl) (fun _ => rfl) (fun s => by kernel_rfl) (fun s D w hd hcl h => ?_)
          go_simp
          try rfl
      have z0 := h.box (x := ⟨11, 13, 29, #[.int .u32 0, .int .u32 0, .int .u32 0, .int .u32 0, .int .u32 0, .int .u32 0, .int .u32 0, .int .u32 0, .int .u32 0, .bool false, .bool false, .bool false, .bool false, .bool false, .bool false, .bool false, .int .u64 0], stA gC⟩) List.mem_cons_self rfl
      replace kk := Lib.hid (show ∀ x ∈ (s 11, 29, stA gC) :: [(NT, 29, stA g), (XT, 42, #[.int .i64 1, .int .u32 g.pc, .int .u32 8, .int .i64 2]), (IT, 33, in16 (iBt z (v % 200))), (NO, 77, opsA), (S, 29, stA g)], Blk Wq x.1 x.2.1 x.2.2 from List.forall_mem_cons.2 ⟨z0.1, h.k⟩)
      replace ol := Lib.hid (show ∀ y ∈ (s 11, 29, stA gC) :: [(NT, 29, stA g), (XT, 42, #[.int .i64 1, .int .u32 g.pc, .int .u32 8, .int .i64 2]), (IT, 33, in16 (iBt z (v % 200))), (NO, 77, opsA), (S, 29, stA g)], y.1 ∉ [B] from List.forall_mem_cons.2 ⟨by have z2 : B < s 11 := z0.2.1; simp; omega, ol.out⟩)
      replace p : Pg S w Wq B (mG c) := h.g
      clear h z0
      generalize s 11 = NC at *
      generalize s 12 = XC at *
      clear s Wp
      generalize Wq = Wp at *
      go_upto_region 17 with fail
      refine wp_region_seq (F := ?_) (fun _ _ => False) (fun _ _ _ _ h => h.elim) [some 82, some 83, some 84, some 85, some 86, some 87, some 88, some 89, some 90, some 91, some 92, some 93, some 94, some 95, some 96, some 97, some 98, some 99, some 100, some 101] [some (.bool false), some (.bool false), some (.bool false), some (.bool false), some (.bool false), some (.bool true), some (.bool true), some (stV g), some (stV g), some (.bool false), some (.bool false), some (.agg #[.int .i64 1, .int .u32 g.pc, .int .u32 8, .int .i64 2]), some (.pointer (some ⟨S, 8, none⟩)), some (.int .u32 g.pc), some (.int .i64 2), some (.agg #[.int .i64 1, .int .u32 g.pc, .int .u32 8, .int .i64 2]), some (.bool false), some (.bool false), some (.bool false), some (.bool false)] (RI (fun _ W => Pg S w W B (mG c)) B 20 20 [(NC, 29, stA gC), (NT, 29, stA g), (XT, 42, #[.int .i64 1, .int .u32 g.pc, .int .u32 8, .int .i64 2]), (IT, 33, in16 (iBt z (v % 200))), (NO, 77, opsA), (S, 29, stA g)] []) (fun _ => 0) (by kernel_rfl) (fun s => ?_) (RI.start p kk.out _) ?_ (fun s Wq h => ?_)
      rotate_left
      · simp only [vsOf, putD, Act.put, Nat.reduceAdd, List.setIfInBounds_toArray, List.set_cons_zero, List.set_cons_succ]
        rfl
      · refine AllOps.cons ?_ (AllOps.cons ?_ (AllOps.cons ?_ (AllOps.cons ?_ (AllOps.cons ?_ (AllOps.cons ?_ (AllOps.cons ?_ (AllOps.cons ?_ (AllOps.cons ?_ (AllOps.cons ?_ (AllOps.cons ?_ (AllOps.cons ?_ (AllOps.cons ?_ (AllOps.cons ?_ (AllOps.cons ?_ (AllOps.cons ?_ (AllOps.cons ?_ (AllOps.cons ?_ (AllOps.cons ?_ (AllOps.cons ?_ AllOps.nil)))))))))))))))))))
        · refine ObOp.val (fun s => .bool false) (by kernel_rfl) (fun _ => rfl) (fun s => by kernel_rfl) (fun s D w hd hcl h => ?_)
          go_simp
          try rfl
        · refine ObOp.val (fun s => .bool false) (by kernel_rfl) (fun _ => rfl) (fun s => by kernel_rfl) (fun s D w hd hcl h => ?_)
          go_simp
          try rfl
        · refine ObOp.val (fun s => .bool false) (by kernel_rfl) (fun _ => rfl) (fun s => by kernel_rfl) (fun s D w hd hcl h => ?_)
          go_simp
          try rfl
        · refine ObOp.val (fun s => .bool false) (by kernel_rfl) (fun _ => rfl) (fun s => by kernel_rfl) (fun s D w hd hcl h => ?_)
          go_simp
          try rfl
        · refine ObOp.val (fun s => .bool false) (by kernel_rfl) (fun _ => rfl) (fun s => by kernel_rfl) (fun s D w hd hcl h => ?_)
          go_simp
          try rfl
        · refine ObOp.val (fun s => .bool true) (by kernel_rfl) (fun _ => rfl) (fun s => by kernel_rfl) (fun s D w hd hcl h => ?_)
          go_simp
          try rfl
        · refine ObOp.val (fun s => .bool true) (by kernel_rfl) (fun _ => rfl) (fun s => by kernel_rfl) (fun s D w hd hcl h => ?_)
          go_simp
          try rfl
        · refine ObOp.val (fun s => stV g) (by kernel_rfl) (fun _ => rfl) (fun s => by kernel_rfl) (fun s D w hd hcl h => ?_)
          exact run_load_row (by rfl) (by rfl) 29 _ (0, 0) _ (h.k _ (List.mem_cons_of_mem _ List.mem_cons_self)).h Tryz.underlying29 rfl szS
        · refine ObOp.val (fun s => stV g) (by kernel_rfl) (fun _ => rfl) (fun s => by kernel_rfl) (fun s D w hd hcl h => ?_)
          exact run_load_row (by rfl) (by rfl) 29 _ (0, 0) _ (h.k _ (List.mem_cons_of_mem _ (List.mem_cons_of_mem _ (List.mem_cons_of_mem _ (List.mem_cons_of_mem _ (List.mem_cons_of_mem _ List.mem_cons_self)))))).h Tryz.underlying29 rfl szS
        · refine ObOp.val (fun s => .bool false) (by kernel_rfl) (fun _ => rfl) (fun s => by kernel_rfl) (fun s D w hd hcl h => ?_)
          exact run_neS (by rfl) g rfl rfl
        · refine ObOp.val (fun s => .bool false) (by kernel_rfl) (fun _ => rfl) (fun s => by kernel_rfl) (fun s D w hd hcl h => ?_)
          go_simp
          try rfl
        · refine ObOp.val (fun s => .agg #[.int .i64 1, .int .u32 g.pc, .int .u32 8, .int .i64 2]) (by kernel_rfl) (fun _ => rfl) (fun s => by kernel_rfl) (fun s D w hd hcl h => ?_)
          exact run_load_row (by rfl) (by rfl) 42 _ (0, 0) _ (h.k _ (List.mem_cons_of_mem _ (List.mem_cons_of_mem _ List.mem_cons_self))).h Tryz.underlying42 rfl (by kernel_rfl)
        · refine ObOp.val (fun s => .pointer (some ⟨S, 8, none⟩)) (by kernel_rfl) (fun _ => rfl) (fun s => by kernel_rfl) (fun s D w hd hcl h => ?_)
          go_simp
          try rfl
        · refine ObOp.val (fun s => .int .u32 g.pc) (by kernel_rfl) (fun _ => rfl) (fun s => by kernel_rfl) (fun s D w hd hcl h => ?_)
          have c := (h.k _ (List.mem_cons_of_mem _ (List.mem_cons_of_mem _ (List.mem_cons_of_mem _ (List.mem_cons_of_mem _ (List.mem_cons_of_mem _ List.mem_cons_self)))))).cell (i := 8) (v := .int .u32 g.pc) rfl
          go_simp
          try rfl
        · refine ObOp.val (fun s => .int .i64 2) (by kernel_rfl) (fun _ => rfl) (fun s => by kernel_rfl) (fun s D w hd hcl h => ?_)
          go_simp
          try rfl
        · refine ObOp.val (fun s => .agg #[.int .i64 1, .int .u32 g.pc, .int .u32 8, .int .i64 2]) (by kernel_rfl) (fun _ => rfl) (fun s => by kernel_rfl) (fun s D w hd hcl h => ?_)
          go_simp
          try exact ⟨rfl, rfl, rfl, rfl⟩
        · refine ObOp.val (fun s => .bool false) (by kernel_rfl) (fun _ => rfl) (fun s => by kernel_rfl) (fun s D w hd hcl h => ?_)
          go_simp
          try rfl
        · refine ObOp.val (fun s => .bool false) (by kernel_rfl) (fun _ => rfl) (fun s => by kernel_rfl) (fun s D w hd hcl h => ?_)
          go_simp
          try rfl
        · refine ObOp.val (fun s => .bool false) (by kernel_rfl) (fun _ => rfl) (fun s => by kernel_rfl) (fun s D w hd hcl h => ?_)
          go_simp
          try rfl
        · refine ObOp.val (fun s => .bool false) (by kernel_rfl) (fun _ => rfl) (fun s => by kernel_rfl) (fun s D w hd hcl h => ?_)
          go_simp
          try rfl
      replace kk := Lib.hid (show ∀ x ∈ [(NC, 29, stA gC), (NT, 29, stA g), (XT, 42, #[.int .i64 1, .int .u32 g.pc, .int .u32 8, .int .i64 2]), (IT, 33, in16 (iBt z (v % 200))), (NO, 77, opsA), (S, 29, stA g)], Blk Wq x.1 x.2.1 x.2.2 from h.k)
      replace p : Pg S w Wq B (mG c) := h.g
      clear h s Wp
      generalize Wq = Wp at *
      go_upto_region 19 with fail
      refine wp_region_seq (F := ?_) (fun _ _ => False) (fun _ _ _ _ h => h.elim) [some 102, some 103, some 104, some 105, some 106, some 107, some 108, some 109, some 110, some 111, some 112, some 113, some 114, some 115, some 116, some 117, some 118, some 119, some 120, some 121, some 122, some 123, some 124, some 125, some 126, some 127, some 128, some 129, some 130, some 8] [some (.bool true), some (.int .i64 c), some (.int .i64 1), some (.bool true), some (.bool true), some (.bool true), some (.bool true), some (.bool true), some (.pointer (some ⟨NC, 0, none⟩)), some (.agg (cells8 gC.r)), some (.pointer (some ⟨S, 0, none⟩)), some (.agg (cells8 g.r)), some (.bool true), some (.bool true), some (.bool true), some (undef), some (undef), some (undef), some (undef), some (undef), some (undef), some (undef), some (undef), some (undef), some (undef), some (undef), some (undef), some (.bool true), some (.bool true), some (.bool true)] (RI (fun _ W => Pg S w W B (mG c)) B 30 30 [(NC, 29, stA gC), (NT, 29, stA g), (XT, 42, #[.int .i64 1, .int .u32 g.pc, .int .u32 8, .int .i64 2]), (IT, 33, in16 (iBt z (v % 200))), (NO, 77, opsA), (S, 29, stA g)] []) (fun _ => 0) (by kernel_rfl) (fun s => ?_) (RI.start p kk.out _) ?_ (fun s Wq h => ?_)
      rotate_left
      · simp only [vsOf, putD, Act.put, Nat.reduceAdd, List.setIfInBounds_toArray, List.set_cons_zero, List.set_cons_succ]
        rfl
      · refine AllOps.cons ?_ (AllOps.cons ?_ (AllOps.cons ?_ (AllOps.cons ?_ (AllOps.cons ?_ (AllOps.cons ?_ (AllOps.cons ?_ (AllOps.cons ?_ (AllOps.cons ?_ (AllOps.cons ?_ (AllOps.cons ?_ (AllOps.cons ?_ (AllOps.cons ?_ (AllOps.cons ?_ (AllOps.cons ?_ (AllOps.cons ?_ (AllOps.cons ?_ (AllOps.cons ?_ (AllOps.cons ?_ (AllOps.cons ?_ (AllOps.cons ?_ (AllOps.cons ?_ (AllOps.cons ?_ (AllOps.cons ?_ (AllOps.cons ?_ (AllOps.cons ?_ (AllOps.cons ?_ (AllOps.cons ?_ (AllOps.cons ?_ (AllOps.cons ?_ AllOps.nil)))))))))))))))))))))))))))))
        · refine ObOp.val (fun s => .bool true) (by kernel_rfl) (fun _ => rfl) (fun s => by kernel_rfl) (fun s D w hd hcl h => ?_)
          go_simp
          try rfl
        · refine ObOp.val (fun s => .int .i64 c) (by kernel_rfl) (fun _ => rfl) (fun s => by kernel_rfl) (fun s D w hd hcl h => ?_)
          go_simp
          try rfl
        · refine ObOp.val (fun s => .int .i64 1) (by kernel_rfl) (fun _ => rfl) (fun s => by kernel_rfl) (fun s D w hd hcl h => ?_)
          go_simp
          try first | exact a1
        · refine ObOp.val (fun s => .bool true) (by kernel_rfl) (fun _ => rfl) (fun s => by kernel_rfl) (fun s D w hd hcl h => ?_)
          go_simp
          try rfl
        · refine ObOp.val (fun s => .bool true) (by kernel_rfl) (fun _ => rfl) (fun s => by kernel_rfl) (fun s D w hd hcl h => ?_)
          go_simp
          try rfl
        · refine ObOp.val (fun s => .bool true) (by kernel_rfl) (fun _ => rfl) (fun s => by kernel_rfl) (fun s D w hd hcl h => ?_)
          go_simp
          try rfl
        · refine ObOp.val (fun s => .bool true) (by kernel_rfl) (fun _ => rfl) (fun s => by kernel_rfl) (fun s D w hd hcl h => ?_)
          go_simp
          try rfl
        · refine ObOp.val (fun s => .bool true) (by kernel_rfl) (fun _ => rfl) (fun s => by kernel_rfl) (fun s D w hd hcl h => ?_)
          go_simp
          try rfl
        · refine ObOp.val (fun s => .pointer (some ⟨NC, 0, none⟩)) (by kernel_rfl) (fun _ => rfl) (fun s => by kernel_rfl) (fun s D w hd hcl h => ?_)
          go_simp
          try rfl
        · refine ObOp.val (fun s => .agg (cells8 gC.r)) (by kernel_rfl) (fun _ => rfl) (fun s => by kernel_rfl) (fun s D w hd hcl h => ?_)
          exact run_load_mid (by rfl) (by rfl) _ _ (Blk.rangeR (h.k _ List.mem_cons_self)) Tryz.underlying24 rfl (by kernel_rfl)
        · refine ObOp.val (fun s => .pointer (some ⟨S, 0, none⟩)) (by kernel_rfl) (fun _ => rfl) (fun s => by kernel_rfl) (fun s D w hd hcl h => ?_)
          go_simp
          try rfl
        · refine ObOp.val (fun s => .agg (cells8 g.r)) (by kernel_rfl) (fun _ => rfl) (fun s => by kernel_rfl) (fun s D w hd hcl h => ?_)
          exact run_load_mid (by rfl) (by rfl) _ _ (Blk.rangeR (h.k _ (List.mem_cons_of_mem _ (List.mem_cons_of_mem _ (List.mem_cons_of_mem _ (List.mem_cons_of_mem _ (List.mem_cons_of_mem _ List.mem_cons_self))))))) Tryz.underlying24 rfl (by kernel_rfl)
        · refine ObOp.val (fun s => .bool true) (by kernel_rfl) (fun _ => rfl) (fun s => by kernel_rfl) (fun s D w hd hcl h => ?_)
          rw [hCR]
          exact run_eqR (by rfl) g.r rfl rfl
        · refine ObOp.val (fun s => .bool true) (by kernel_rfl) (fun _ => rfl) (fun s => by kernel_rfl) (fun s D w hd hcl h => ?_)
          go_simp
          try rfl
        · refine ObOp.val (fun s => .bool true) (by kernel_rfl) (fun _ => rfl) (fun s => by kernel_rfl) (fun s D w hd hcl h => ?_)
          go_simp
          try rfl
        · exact ObOp.skip (by kernel_rfl) (fun _ => rfl) (fun s => by kernel_rfl)
        · exact ObOp.skip (by kernel_rfl) (fun _ => rfl) (fun s => by kernel_rfl)
        · exact ObOp.skip (by kernel_rfl) (fun _ => rfl) (fun s => by kernel_rfl)
        · exact ObOp.skip (by kernel_rfl) (fun _ => rfl) (fun s => by kernel_rfl)
        · exact ObOp.skip (by kernel_rfl) (fun _ => rfl) (fun s => by kernel_rfl)
        · exact ObOp.skip (by kernel_rfl) (fun _ => rfl) (fun s => by kernel_rfl)
        · exact ObOp.skip (by kernel_rfl) (fun _ => rfl) (fun s => by kernel_rfl)
        · exact ObOp.skip (by kernel_rfl) (fun _ => rfl) (fun s => by kernel_rfl)
        · exact ObOp.skip (by kernel_rfl) (fun _ => rfl) (fun s => by kernel_rfl)
        · exact ObOp.skip (by kernel_rfl) (fun _ => rfl) (fun s => by kernel_rfl)
        · exact ObOp.skip (by kernel_rfl) (fun _ => rfl) (fun s => by kernel_rfl)
        · exact ObOp.skip (by kernel_rfl) (fun _ => rfl) (fun s => by kernel_rfl)
        · refine ObOp.val (fun s => .bool true) (by kernel_rfl) (fun _ => rfl) (fun s => by kernel_rfl) (fun s D w hd hcl h => ?_)
          go_simp
          try rfl
        · refine ObOp.val (fun s => .bool true) (by kernel_rfl) (fun _ => rfl) (fun s => by kernel_rfl) (fun s D w hd hcl h => ?_)
          go_simp
          try rfl
        · refine ObOp.val (fun s => .bool true) (by kernel_rfl) (fun _ => rfl) (fun s => by kernel_rfl) (fun s D w hd hcl h => ?_)
          go_simp
          try rfl
      go_wp2_with fail
      exact bodyPost_ret (v := .bool true) (by simp [results, Tryz.results13, go_sem]) rfl ⟨rfl, by rw [hS0]; exact h.g.done⟩
    · have a1 := (and31 c hc).2.2.2 (by omega)
      obtain ⟨hT, hC⟩ := hD.out (by omega)
      clear hA hB hD h3 h1
      replace hT := Lib.hid hT
      replace hC := Lib.hid hC
      refine wp_region_seq (F := ?_) (fun _ _ => False) (fun _ _ _ _ h => h.elim) [some 58, some 59, some 60, some 61, some 57, some 62, some 63, some 64, some 13, some 14, none, none, some 15] [some (mp B), some (stV g), some (inV (iBt z (v % 200))), some (.tuple #[stV g, fltV 1 g.pc 8 1, .bool false]), some (.tuple #[stV g, fltV 1 g.pc 8 1, .bool false]), some (stV g), some (fltV 1 g.pc 8 1), some (.bool false), none, none, some undef, some undef, some (.bool false)] (RI (fun k W => Pg S w W B (bif k then (mG c) else (mG c))) B 3 13 [(IT, 33, in16 (iBt z (v % 200))), (NO, 77, opsA), (S, 29, stA g)] [⟨8, 10, 29, #[.int .u32 0, .int .u32 0, .int .u32 0, .int .u32 0, .int .u32 0, .int .u32 0, .int .u32 0, .int .u32 0, .int .u32 0, .bool false, .bool false, .bool false, .bool false, .bool false, .bool false, .bool false, .int .u64 0], stA g⟩, ⟨9, 11, 42, #[.int .i64 0, .int .u32 0, .int .u32 0, .int .i64 0], #[.int .i64 1, .int .u32 g.pc, .int .u32 8, .int .i64 1]⟩]) (fun _ => 0) (by kernel_rfl) (fun s => ?_) (RI.start p kk.out _) ?_ (fun s Wq h => ?_)
      rotate_left
      · simp only [vsOf, putD, Act.put, Nat.reduceAdd, List.setIfInBounds_toArray, List.set_cons_zero, List.set_cons_succ]
        rfl
      · refine AllOps.cons ?_ (AllOps.cons ?_ (AllOps.cons ?_ (AllOps.cons ?_ (AllOps.cons ?_ (AllOps.cons ?_ (AllOps.cons ?_ (AllOps.cons ?_ (AllOps.cons ?_ (AllOps.cons ?_ (AllOps.cons ?_ (AllOps.cons ?_ (AllOps.cons ?_ AllOps.nil))))))))))))
        · refine ObOp.val (fun s => mp B) (by kernel_rfl) (fun _ => rfl) (fun s => by kernel_rfl) (fun s D w hd hcl h => ?_)
          go_simp
          try rfl
        · refine ObOp.val (fun s => stV g) (by kernel_rfl) (fun _ => rfl) (fun s => by kernel_rfl) (fun s D w hd hcl h => ?_)
          exact run_load_row (by rfl) (by rfl) 29 _ (0, 0) _ (h.k _ (List.mem_cons_of_mem _ (List.mem_cons_of_mem _ List.mem_cons_self))).h Tryz.underlying29 rfl szS
        · refine ObOp.val (fun s => inV (iBt z (v % 200))) (by kernel_rfl) (fun _ => rfl) (fun s => by kernel_rfl) (fun s D w hd hcl h => ?_)
          exact run_load_in (by rfl) (by rfl) (h.k _ List.mem_cons_self)
        · refine ObOp.guest (Sx := [B]) (fun k hk => by simp at hk; omega) (fun s => .tuple #[stV g, fltV 1 g.pc 8 1, .bool false]) (19) (fun s => #[mp B, stV g, inV (iBt z (v % 200))]) (by kernel_rfl) ol.out (fun _ => rfl) (fun s => by kernel_rfl) (fun s D w ha h => ?_) (fun s w hg => ?_)
          · go_simp
            try rfl
          · exact hT.out.pg T0.out hS0 hg
        · refine ObOp.val (fun s => .tuple #[stV g, fltV 1 g.pc 8 1, .bool false]) (by kernel_rfl) (fun _ => rfl) (fun s => by kernel_rfl) (fun s D w hd hcl h => ?_)
          go_simp
          try rfl
        · refine ObOp.val (fun s => stV g) (by kernel_rfl) (fun _ => rfl) (fun s => by kernel_rfl) (fun s D w hd hcl h => ?_)
          go_simp
          try rfl
        · refine ObOp.val (fun s => fltV 1 g.pc 8 1) (by kernel_rfl) (fun _ => rfl) (fun s => by kernel_rfl) (fun s D w hd hcl h => ?_)
          go_simp
          try rfl
        · refine ObOp.val (fun s => .bool false) (by kernel_rfl) (fun _ => rfl) (fun s => by kernel_rfl) (fun s D w hd hcl h => ?_)
          go_simp
          try rfl
        · refine ObOp.alloc (gok13 S w B (mG c) (mG c)) (x := ⟨8, 10, 29, #[.int .u32 0, .int .u32 0, .int .u32 0, .int .u32 0, .int .u32 0, .int .u32 0, .int .u32 0, .int .u32 0, .int .u32 0, .bool false, .bool false, .bool false, .bool false, .bool false, .bool false, .bool false, .int .u64 0], stA g⟩) List.mem_cons_self (by kernel_rfl) (fun _ => rfl) rfl (fun s => by kernel_rfl) (fun s w => ?_)
          go_simp
          try rfl
        · refine ObOp.alloc (gok13 S w B (mG c) (mG c)) (x := ⟨9, 11, 42, #[.int .i64 0, .int .u32 0, .int .u32 0, .int .i64 0], #[.int .i64 1, .int .u32 g.pc, .int .u32 8, .int .i64 1]⟩) (List.mem_cons_of_mem _ List.mem_cons_self) (by kernel_rfl) (fun _ => rfl) rfl (fun s => by kernel_rfl) (fun s w => ?_)
          go_simp
          try rfl
        · refine ObOp.stores (gok13 S w B (mG c) (mG c)) (x := ⟨8, 10, 29, #[.int .u32 0, .int .u32 0, .int .u32 0, .int .u32 0, .int .u32 0, .int .u32 0, .int .u32 0, .int .u32 0, .int .u32 0, .bool false, .bool false, .bool false, .bool false, .bool false, .bool false, .bool false, .int .u64 0], stA g⟩) List.mem_cons_self (by kernel_rfl) (fun s => by kernel_rfl) rfl (by kernel_rfl) (fun s D w K hD hb hk => ?_)
          exact wp_store_row _ _ _ rfl (s 8) (stA g) rfl rfl (29) (#[.int .u32 0, .int .u32 0, .int .u32 0, .int .u32 0, .int .u32 0, .int .u32 0, .int .u32 0, .int .u32 0, .int .u32 0, .bool false, .bool false, .bool false, .bool false, .bool false, .bool false, .bool false, .int .u64 0]) hb.h (by kernel_rfl) (by kernel_rfl) (by first | exact stA_all _ | simp [Value.oneCell']) hk
        · refine ObOp.stores (gok13 S w B (mG c) (mG c)) (x := ⟨9, 11, 42, #[.int .i64 0, .int .u32 0, .int .u32 0, .int .i64 0], #[.int .i64 1, .int .u32 g.pc, .int .u32 8, .int .i64 1]⟩) (List.mem_cons_of_mem _ List.mem_cons_self) (by kernel_rfl) (fun s => by kernel_rfl) rfl (by kernel_rfl) (fun s D w K hD hb hk => ?_)
          exact wp_store_row _ _ _ rfl (s 9) (#[.int .i64 1, .int .u32 g.pc, .int .u32 8, .int .i64 1]) rfl rfl (42) (#[.int .i64 0, .int .u32 0, .int .u32 0, .int .i64 0]) hb.h (by kernel_rfl) (by kernel_rfl) (by first | exact stA_all _ | simp [Value.oneCell']) hk
        · refine ObOp.val (fun s => .bool false) (by kernel_rfl) (fun _ => rfl) (fun s => by kernel_rfl) (fun s D w hd hcl h => ?_)
          go_simp
          try rfl
      have z1 := h.box (x := ⟨9, 11, 42, #[.int .i64 0, .int .u32 0, .int .u32 0, .int .i64 0], #[.int .i64 1, .int .u32 g.pc, .int .u32 8, .int .i64 1]⟩) (List.mem_cons_of_mem _ List.mem_cons_self) rfl
      have z0 := h.box (x := ⟨8, 10, 29, #[.int .u32 0, .int .u32 0, .int .u32 0, .int .u32 0, .int .u32 0, .int .u32 0, .int .u32 0, .int .u32 0, .int .u32 0, .bool false, .bool false, .bool false, .bool false, .bool false, .bool false, .bool false, .int .u64 0], stA g⟩) List.mem_cons_self rfl
      replace kk := Lib.hid (show ∀ x ∈ (s 8, 29, stA g) :: (s 9, 42, #[.int .i64 1, .int .u32 g.pc, .int .u32 8, .int .i64 1]) :: [(IT, 33, in16 (iBt z (v % 200))), (NO, 77, opsA), (S, 29, stA g)], Blk Wq x.1 x.2.1 x.2.2 from List.forall_mem_cons.2 ⟨z0.1, List.forall_mem_cons.2 ⟨z1.1, h.k⟩⟩)
      replace ol := Lib.hid (show ∀ y ∈ (s 8, 29, stA g) :: (s 9, 42, #[.int .i64 1, .int .u32 g.pc, .int .u32 8, .int .i64 1]) :: [(IT, 33, in16 (iBt z (v % 200))), (NO, 77, opsA), (S, 29, stA g)], y.1 ∉ [B] from List.forall_mem_cons.2 ⟨by have z2 : B < s 8 := z0.2.1; simp; omega, List.forall_mem_cons.2 ⟨by have z2 : B < s 9 := z1.2.1; simp; omega, ol.out⟩⟩)
      replace p : Pg S w Wq B (mG c) := h.g
      clear h z0 z1
      generalize s 8 = NT at *
      generalize s 9 = XT at *
      clear s Wp
      generalize Wq = Wp at *
      go_upto_region 12 with fail
      refine wp_region_inv (F := ?_) (fun _ _ => False) (fun _ _ _ _ h => h.elim) [some 66, some 67, some 68, some 69, some 70, some 71, some 72, some 65, some 73, some 74, some 75, some 16, some 17, none, none, some 18] [some (mp B), some (stV g), some (opV ⟨3, 0, 8, -1, -1, 1⟩), some (.int .u32 v), some (opV ⟨2, 0, v, 0, 0, 0⟩), some (inV (iCm v)), some (.tuple #[stV g, fltV 1 g.pc 8 1, .bool false]), some (.tuple #[stV g, fltV 1 g.pc 8 1, .bool false]), some (stV g), some (fltV 1 g.pc 8 1), some (.bool false), none, none, some undef, some undef, some (.bool false)] (RI (fun k W => Pg S w W B (bif k then (mG c) else (mG c))) B 6 16 [(NT, 29, stA g), (XT, 42, #[.int .i64 1, .int .u32 g.pc, .int .u32 8, .int .i64 1]), (IT, 33, in16 (iBt z (v % 200))), (NO, 77, opsA), (S, 29, stA g)] [⟨11, 13, 29, #[.int .u32 0, .int .u32 0, .int .u32 0, .int .u32 0, .int .u32 0, .int .u32 0, .int .u32 0, .int .u32 0, .int .u32 0, .bool false, .bool false, .bool false, .bool false, .bool false, .bool false, .bool false, .int .u64 0], stA g⟩, ⟨12, 14, 42, #[.int .i64 0, .int .u32 0, .int .u32 0, .int .i64 0], #[.int .i64 1, .int .u32 g.pc, .int .u32 8, .int .i64 1]⟩]) (fun _ => 0) (by kernel_rfl) (by kernel_rfl) (fun s => ?_) (RI.start p.drew (fun x hx => (kk.out x hx).drew) _) ?_ (fun s Wq h => ?_)
      rotate_left
      · simp only [vsOf, putD, Act.put, Nat.reduceAdd, List.setIfInBounds_toArray, List.set_cons_zero, List.set_cons_succ]
        rfl
      · refine AllOps.cons ?_ (AllOps.cons ?_ (AllOps.cons ?_ (AllOps.cons ?_ (AllOps.cons ?_ (AllOps.cons ?_ (AllOps.cons ?_ (AllOps.cons ?_ (AllOps.cons ?_ (AllOps.cons ?_ (AllOps.cons ?_ (AllOps.cons ?_ (AllOps.cons ?_ (AllOps.cons ?_ (AllOps.cons ?_ (AllOps.cons ?_ AllOps.nil)))))))))))))))
        · refine ObOp.val (fun s => mp B) (by kernel_rfl) (fun _ => rfl) (fun s => by kernel_rfl) (fun s D w hd hcl h => ?_)
          go_simp
          try rfl
        · refine ObOp.val (fun s => stV g) (by kernel_rfl) (fun _ => rfl) (fun s => by kernel_rfl) (fun s D w hd hcl h => ?_)
          exact run_load_row (by rfl) (by rfl) 29 _ (0, 0) _ (h.k _ (List.mem_cons_of_mem _ (List.mem_cons_of_mem _ (List.mem_cons_of_mem _ (List.mem_cons_of_mem _ List.mem_cons_self))))).h Tryz.underlying29 rfl szS
        · refine ObOp.calls (gok13 S w B (mG c) (mG c)) (fun s => opV ⟨3, 0, 8, -1, -1, 1⟩) (33) (fun s => #[.int .u32 8]) (by kernel_rfl) (fun _ => rfl) (fun s => by kernel_rfl) (fun s D w ha h => ?_) (fun s D w hd hcl h => ?_)
          · go_simp
            try rfl
          · exact mem13 8 _
        · refine ObOp.val (fun s => .int .u32 v) (by kernel_rfl) (fun _ => rfl) (fun s => by kernel_rfl) (fun s D w hd hcl h => ?_)
          go_simp
          try rfl
        · refine ObOp.calls (gok13 S w B (mG c) (mG c)) (fun s => opV ⟨2, 0, v, 0, 0, 0⟩) (34) (fun s => #[.int .u32 v]) (by kernel_rfl) (fun _ => rfl) (fun s => by kernel_rfl) (fun s D w ha h => ?_) (fun s D w hd hcl h => ?_)
          · go_simp
            try rfl
          · exact imm13 v _
        · refine ObOp.val (fun s => inV (iCm v)) (by kernel_rfl) (fun _ => rfl) (fun s => by kernel_rfl) (fun s D w hd hcl h => ?_)
          go_simp
          exact ⟨rfl, rfl, rfl, rfl, rfl, rfl, rfl, rfl, rfl, rfl, rfl, rfl, rfl, rfl, rfl, rfl⟩
        · refine ObOp.guest (Sx := [B]) (fun k hk => by simp at hk; omega) (fun s => .tuple #[stV g, fltV 1 g.pc 8 1, .bool false]) (19) (fun s => #[mp B, stV g, inV (iCm v)]) (by kernel_rfl) ol.out (fun _ => rfl) (fun s => by kernel_rfl) (fun s D w ha h => ?_) (fun s w hg => ?_)
          · go_simp
            try rfl
          · exact hC.out.pg T0.out hS0 hg
        · refine ObOp.val (fun s => .tuple #[stV g, fltV 1 g.pc 8 1, .bool false]) (by kernel_rfl) (fun _ => rfl) (fun s => by kernel_rfl) (fun s D w hd hcl h => ?_)
          go_simp
          try rfl
        · refine ObOp.val (fun s => stV g) (by kernel_rfl) (fun _ => rfl) (fun s => by kernel_rfl) (fun s D w hd hcl h => ?_)
          go_simp
          try rfl
        · refine ObOp.val (fun s => fltV 1 g.pc 8 1) (by kernel_rfl) (fun _ => rfl) (fun s => by kernel_rfl) (fun s D w hd hcl h => ?_)
          go_simp
          try rfl
        · refine ObOp.val (fun s => .bool false) (by kernel_rfl) (fun _ => rfl) (fun s => by kernel_rfl) (fun s D w hd hcl h => ?_)
          go_simp
          try rfl
        · refine ObOp.alloc (gok13 S w B (mG c) (mG c)) (x := ⟨11, 13, 29, #[.int .u32 0, .int .u32 0, .int .u32 0, .int .u32 0, .int .u32 0, .int .u32 0, .int .u32 0, .int .u32 0, .int .u32 0, .bool false, .bool false, .bool false, .bool false, .bool false, .bool false, .bool false, .int .u64 0], stA g⟩) List.mem_cons_self (by kernel_rfl) (fun _ => rfl) rfl (fun s => by kernel_rfl) (fun s w => ?_)
          go_simp
          try rfl
        · refine ObOp.alloc (gok13 S w B (mG c) (mG c)) (x := ⟨12, 14, 42, #[.int .i64 0, .int .u32 0, .int .u32 0, .int .i64 0], #[.int .i64 1, .int .u32 g.pc, .int .u32 8, .int .i64 1]⟩) (List.mem_cons_of_mem _ List.mem_cons_self) (by kernel_rfl) (fun _ => rfl) rfl (fun s => by kernel_rfl) (fun s w => ?_)
          go_simp
          try rfl
        · refine ObOp.stores (gok13 S w B (mG c) (mG c)) (x := ⟨11, 13, 29, #[.int .u32 0, .int .u32 0, .int .u32 0, .int .u32 0, .int .u32 0, .int .u32 0, .int .u32 0, .int .u32 0, .int .u32 0, .bool false, .bool false, .bool false, .bool false, .bool false, .bool false, .bool false, .int .u64 0], stA g⟩) List.mem_cons_self (by kernel_rfl) (fun s => by kernel_rfl) rfl (by kernel_rfl) (fun s D w K hD hb hk => ?_)
          exact wp_store_row _ _ _ rfl (s 11) (stA g) rfl rfl (29) (#[.int .u32 0, .int .u32 0, .int .u32 0, .int .u32 0, .int .u32 0, .int .u32 0, .int .u32 0, .int .u32 0, .int .u32 0, .bool false, .bool false, .bool false, .bool false, .bool false, .bool false, .bool false, .int .u64 0]) hb.h (by kernel_rfl) (by kernel_rfl) (by first | exact stA_all _ | simp [Value.oneCell']) hk
        · refine ObOp.stores (gok13 S w B (mG c) (mG c)) (x := ⟨12, 14, 42, #[.int .i64 0, .int .u32 0, .int .u32 0, .int .i64 0], #[.int .i64 1, .int .u32 g.pc, .int .u32 8, .int .i64 1]⟩) (List.mem_cons_of_mem _ List.mem_cons_self) (by kernel_rfl) (fun s => by kernel_rfl) rfl (by kernel_rfl) (fun s D w K hD hb hk => ?_)
          exact wp_store_row _ _ _ rfl (s 12) (#[.int .i64 1, .int .u32 g.pc, .int .u32 8, .int .i64 1]) rfl rfl (42) (#[.int .i64 0, .int .u32 0, .int .u32 0, .int .i64 0]) hb.h (by kernel_rfl) (by kernel_rfl) (by first | exact stA_all _ | simp [Value.oneCell']) hk
        · refine ObOp.val (fun s => .bool false) (by kernel_rfl) (fun _ => rfl) (fun s => by kernel_rfl) (fun s D w hd hcl h => ?_)
          go_simp
          try rfl
      have z1 := h.box (x := ⟨12, 14, 42, #[.int .i64 0, .int .u32 0, .int .u32 0, .int .i64 0], #[.int .i64 1, .int .u32 g.pc, .int .u32 8, .int .i64 1]⟩) (List.mem_cons_of_mem _ List.mem_cons_self) rfl
      have z0 := h.box (x := ⟨11, 13, 29, #[.int .u32 0, .int .u32 0, .int .u32 0, .int .u32 0, .int .u32 0, .int .u32 0, .int .u32 0, .int .u32 0, .int .u32 0, .bool false, .bool false, .bool false, .bool false, .bool false, .bool false, .bool false, .int .u64 0], stA g⟩) List.mem_cons_self rfl
      replace kk := Lib.hid (show ∀ x ∈ (s 11, 29, stA g) :: (s 12, 42, #[.int .i64 1, .int .u32 g.pc, .int .u32 8, .int .i64 1]) :: [(NT, 29, stA g), (XT, 42, #[.int .i64 1, .int .u32 g.pc, .int .u32 8, .int .i64 1]), (IT, 33, in16 (iBt z (v % 200))), (NO, 77, opsA), (S, 29, stA g)], Blk Wq x.1 x.2.1 x.2.2 from List.forall_mem_cons.2 ⟨z0.1, List.forall_mem_cons.2 ⟨z1.1, h.k⟩⟩)
      replace ol := Lib.hid (show ∀ y ∈ (s 11, 29, stA g) :: (s 12, 42, #[.int .i64 1, .int .u32 g.pc, .int .u32 8, .int .i64 1]) :: [(NT, 29, stA g), (XT, 42, #[.int .i64 1, .int .u32 g.pc, .int .u32 8, .int .i64 1]), (IT, 33, in16 (iBt z (v % 200))), (NO, 77, opsA), (S, 29, stA g)], y.1 ∉ [B] from List.forall_mem_cons.2 ⟨by have z2 : B < s 11 := z0.2.1; simp; omega, List.forall_mem_cons.2 ⟨by have z2 : B < s 12 := z1.2.1; simp; omega, ol.out⟩⟩)
      replace p : Pg S w Wq B (mG c) := h.g
      clear h z0 z1
      generalize s 11 = NC at *
      generalize s 12 = XC at *
      clear s Wp
      generalize Wq = Wp at *
      go_upto_region 17 with fail
      refine wp_region_seq (F := ?_) (fun _ _ => False) (fun _ _ _ _ h => h.elim) [some 82, some 83, some 84, some 85, some 86, some 87, some 88, some 89, some 90, some 91, some 92, some 93, some 94, some 95, some 96, some 97, some 98, some 99, some 100, some 101] [some (.bool false), some (.bool false), some (.bool false), some (.bool false), some (.bool false), some (.bool true), some (.bool true), some (stV g), some (stV g), some (.bool false), some (.bool false), some (.agg #[.int .i64 1, .int .u32 g.pc, .int .u32 8, .int .i64 1]), some (.pointer (some ⟨S, 8, none⟩)), some (.int .u32 g.pc), some (.int .i64 1), some (.agg #[.int .i64 1, .int .u32 g.pc, .int .u32 8, .int .i64 1]), some (.bool false), some (.bool false), some (.bool false), some (.bool false)] (RI (fun _ W => Pg S w W B (mG c)) B 20 20 [(NC, 29, stA g), (XC, 42, #[.int .i64 1, .int .u32 g.pc, .int .u32 8, .int .i64 1]), (NT, 29, stA g), (XT, 42, #[.int .i64 1, .int .u32 g.pc, .int .u32 8, .int .i64 1]), (IT, 33, in16 (iBt z (v % 200))), (NO, 77, opsA), (S, 29, stA g)] []) (fun _ => 0) (by kernel_rfl) (fun s => ?_) (RI.start p kk.out _) ?_ (fun s Wq h => ?_)
      rotate_left
      · simp only [vsOf, putD, Act.put, Nat.reduceAdd, List.setIfInBounds_toArray, List.set_cons_zero, List.set_cons_succ]
        rfl
      · refine AllOps.cons ?_ (AllOps.cons ?_ (AllOps.cons ?_ (AllOps.cons ?_ (AllOps.cons ?_ (AllOps.cons ?_ (AllOps.cons ?_ (AllOps.cons ?_ (AllOps.cons ?_ (AllOps.cons ?_ (AllOps.cons ?_ (AllOps.cons ?_ (AllOps.cons ?_ (AllOps.cons ?_ (AllOps.cons ?_ (AllOps.cons ?_ (AllOps.cons ?_ (AllOps.cons ?_ (AllOps.cons ?_ (AllOps.cons ?_ AllOps.nil)))))))))))))))))))
        · refine ObOp.val (fun s => .bool false) (by kernel_rfl) (fun _ => rfl) (fun s => by kernel_rfl) (fun s D w hd hcl h => ?_)
          go_simp
          try rfl
        · refine ObOp.val (fun s => .bool false) (by kernel_rfl) (fun _ => rfl) (fun s => by kernel_rfl) (fun s D w hd hcl h => ?_)
          go_simp
          try rfl
        · refine ObOp.val (fun s => .bool false) (by kernel_rfl) (fun _ => rfl) (fun s => by kernel_rfl) (fun s D w hd hcl h => ?_)
          go_simp
          try rfl
        · refine ObOp.val (fun s => .bool false) (by kernel_rfl) (fun _ => rfl) (fun s => by kernel_rfl) (fun s D w hd hcl h => ?_)
          go_simp
          try rfl
        · refine ObOp.val (fun s => .bool false) (by kernel_rfl) (fun _ => rfl) (fun s => by kernel_rfl) (fun s D w hd hcl h => ?_)
          go_simp
          try rfl
        · refine ObOp.val (fun s => .bool true) (by kernel_rfl) (fun _ => rfl) (fun s => by kernel_rfl) (fun s D w hd hcl h => ?_)
          go_simp
          try rfl
        · refine ObOp.val (fun s => .bool true) (by kernel_rfl) (fun _ => rfl) (fun s => by kernel_rfl) (fun s D w hd hcl h => ?_)
          go_simp
          try rfl
        · refine ObOp.val (fun s => stV g) (by kernel_rfl) (fun _ => rfl) (fun s => by kernel_rfl) (fun s D w hd hcl h => ?_)
          exact run_load_row (by rfl) (by rfl) 29 _ (0, 0) _ (h.k _ (List.mem_cons_of_mem _ (List.mem_cons_of_mem _ List.mem_cons_self))).h Tryz.underlying29 rfl szS
        · refine ObOp.val (fun s => stV g) (by kernel_rfl) (fun _ => rfl) (fun s => by kernel_rfl) (fun s D w hd hcl h => ?_)
          exact run_load_row (by rfl) (by rfl) 29 _ (0, 0) _ (h.k _ (List.mem_cons_of_mem _ (List.mem_cons_of_mem _ (List.mem_cons_of_mem _ (List.mem_cons_of_mem _ (List.mem_cons_of_mem _ (List.mem_cons_of_mem _ List.mem_cons_self))))))).h Tryz.underlying29 rfl szS
        · refine ObOp.val (fun s => .bool false) (by kernel_rfl) (fun _ => rfl) (fun s => by kernel_rfl) (fun s D w hd hcl h => ?_)
          exact run_neS (by rfl) g rfl rfl
        · refine ObOp.val (fun s => .bool false) (by kernel_rfl) (fun _ => rfl) (fun s => by kernel_rfl) (fun s D w hd hcl h => ?_)
          go_simp
          try rfl
        · refine ObOp.val (fun s => .agg #[.int .i64 1, .int .u32 g.pc, .int .u32 8, .int .i64 1]) (by kernel_rfl) (fun _ => rfl) (fun s => by kernel_rfl) (fun s D w hd hcl h => ?_)
          exact run_load_row (by rfl) (by rfl) 42 _ (0, 0) _ (h.k _ (List.mem_cons_of_mem _ (List.mem_cons_of_mem _ (List.mem_cons_of_mem _ List.mem_cons_self)))).h Tryz.underlying42 rfl (by kernel_rfl)
        · refine ObOp.val (fun s => .pointer (some ⟨S, 8, none⟩)) (by kernel_rfl) (fun _ => rfl) (fun s => by kernel_rfl) (fun s D w hd hcl h => ?_)
          go_simp
          try rfl
        · refine ObOp.val (fun s => .int .u32 g.pc) (by kernel_rfl) (fun _ => rfl) (fun s => by kernel_rfl) (fun s D w hd hcl h => ?_)
          have c := (h.k _ (List.mem_cons_of_mem _ (List.mem_cons_of_mem _ (List.mem_cons_of_mem _ (List.mem_cons_of_mem _ (List.mem_cons_of_mem _ (List.mem_cons_of_mem _ List.mem_cons_self))))))).cell (i := 8) (v := .int .u32 g.pc) rfl
          go_simp
          try rfl
        · refine ObOp.val (fun s => .int .i64 1) (by kernel_rfl) (fun _ => rfl) (fun s => by kernel_rfl) (fun s D w hd hcl h => ?_)
          go_simp
          try rfl
        · refine ObOp.val (fun s => .agg #[.int .i64 1, .int .u32 g.pc, .int .u32 8, .int .i64 1]) (by kernel_rfl) (fun _ => rfl) (fun s => by kernel_rfl) (fun s D w hd hcl h => ?_)
          go_simp
          try exact ⟨rfl, rfl, rfl, rfl⟩
        · refine ObOp.val (fun s => .bool false) (by kernel_rfl) (fun _ => rfl) (fun s => by kernel_rfl) (fun s D w hd hcl h => ?_)
          go_simp
          try rfl
        · refine ObOp.val (fun s => .bool false) (by kernel_rfl) (fun _ => rfl) (fun s => by kernel_rfl) (fun s D w hd hcl h => ?_)
          go_simp
          try rfl
        · refine ObOp.val (fun s => .bool false) (by kernel_rfl) (fun _ => rfl) (fun s => by kernel_rfl) (fun s D w hd hcl h => ?_)
          go_simp
          try rfl
        · refine ObOp.val (fun s => .bool false) (by kernel_rfl) (fun _ => rfl) (fun s => by kernel_rfl) (fun s D w hd hcl h => ?_)
          go_simp
          try rfl
      replace kk := Lib.hid (show ∀ x ∈ [(NC, 29, stA g), (XC, 42, #[.int .i64 1, .int .u32 g.pc, .int .u32 8, .int .i64 1]), (NT, 29, stA g), (XT, 42, #[.int .i64 1, .int .u32 g.pc, .int .u32 8, .int .i64 1]), (IT, 33, in16 (iBt z (v % 200))), (NO, 77, opsA), (S, 29, stA g)], Blk Wq x.1 x.2.1 x.2.2 from h.k)
      replace p : Pg S w Wq B (mG c) := h.g
      clear h s Wp
      generalize Wq = Wp at *
      go_upto_region 19 with fail
      refine wp_region_seq (F := ?_) (fun _ _ => False) (fun _ _ _ _ h => h.elim) [some 102, some 103, some 104, some 105, some 106, some 107, some 108, some 109, some 110, some 111, some 112, some 113, some 114, some 115, some 116, some 117, some 118, some 119, some 120, some 121, some 122, some 123, some 124, some 125, some 126, some 127, some 128, some 129, some 130, some 8] [some (.bool false), some (.int .i64 c), some (.int .i64 0), some (.bool false), some (.bool true), some (.bool true), some (.bool false), some (.bool false), some (undef), some (undef), some (undef), some (undef), some (undef), some (.bool false), some (.bool false), some (.bool false), some (.bool true), some (.bool true), some (stV g), some (stV g), some (.bool true), some (.bool true), some (.bool true), some (.pointer (some ⟨XC, 3, none⟩)), some (.int .i64 1), some (.bool true), some (.bool true), some (.bool true), some (.bool true), some (.bool true)] (RI (fun _ W => Pg S w W B (mG c)) B 30 30 [(NC, 29, stA g), (XC, 42, #[.int .i64 1, .int .u32 g.pc, .int .u32 8, .int .i64 1]), (NT, 29, stA g), (XT, 42, #[.int .i64 1, .int .u32 g.pc, .int .u32 8, .int .i64 1]), (IT, 33, in16 (iBt z (v % 200))), (NO, 77, opsA), (S, 29, stA g)] []) (fun _ => 0) (by kernel_rfl) (fun s => ?_) (RI.start p kk.out _) ?_ (fun s Wq h => ?_)
      rotate_left
      · simp only [vsOf, putD, Act.put, Nat.reduceAdd, List.setIfInBounds_toArray, List.set_cons_zero, List.set_cons_succ]
        rfl
      · refine AllOps.cons ?_ (AllOps.cons ?_ (AllOps.cons ?_ (AllOps.cons ?_ (AllOps.cons ?_ (AllOps.cons ?_ (AllOps.cons ?_ (AllOps.cons ?_ (AllOps.cons ?_ (AllOps.cons ?_ (AllOps.cons ?_ (AllOps.cons ?_ (AllOps.cons ?_ (AllOps.cons ?_ (AllOps.cons ?_ (AllOps.cons ?_ (AllOps.cons ?_ (AllOps.cons ?_ (AllOps.cons ?_ (AllOps.cons ?_ (AllOps.cons ?_ (AllOps.cons ?_ (AllOps.cons ?_ (AllOps.cons ?_ (AllOps.cons ?_ (AllOps.cons ?_ (AllOps.cons ?_ (AllOps.cons ?_ (AllOps.cons ?_ (AllOps.cons ?_ AllOps.nil)))))))))))))))))))))))))))))
        · refine ObOp.val (fun s => .bool false) (by kernel_rfl) (fun _ => rfl) (fun s => by kernel_rfl) (fun s D w hd hcl h => ?_)
          go_simp
          try rfl
        · refine ObOp.val (fun s => .int .i64 c) (by kernel_rfl) (fun _ => rfl) (fun s => by kernel_rfl) (fun s D w hd hcl h => ?_)
          go_simp
          try rfl
        · refine ObOp.val (fun s => .int .i64 0) (by kernel_rfl) (fun _ => rfl) (fun s => by kernel_rfl) (fun s D w hd hcl h => ?_)
          go_simp
          try first | exact a1
        · refine ObOp.val (fun s => .bool false) (by kernel_rfl) (fun _ => rfl) (fun s => by kernel_rfl) (fun s D w hd hcl h => ?_)
          go_simp
          try rfl
        · refine ObOp.val (fun s => .bool true) (by kernel_rfl) (fun _ => rfl) (fun s => by kernel_rfl) (fun s D w hd hcl h => ?_)
          go_simp
          try rfl
        · refine ObOp.val (fun s => .bool true) (by kernel_rfl) (fun _ => rfl) (fun s => by kernel_rfl) (fun s D w hd hcl h => ?_)
          go_simp
          try rfl
        · refine ObOp.val (fun s => .bool false) (by kernel_rfl) (fun _ => rfl) (fun s => by kernel_rfl) (fun s D w hd hcl h => ?_)
          go_simp
          try rfl
        · refine ObOp.val (fun s => .bool false) (by kernel_rfl) (fun _ => rfl) (fun s => by kernel_rfl) (fun s D w hd hcl h => ?_)
          go_simp
          try rfl
        · exact ObOp.skip (by kernel_rfl) (fun _ => rfl) (fun s => by kernel_rfl)
        · exact ObOp.skip (by kernel_rfl) (fun _ => rfl) (fun s => by kernel_rfl)
        · exact ObOp.skip (by kernel_rfl) (fun _ => rfl) (fun s => by kernel_rfl)
        · exact ObOp.skip (by kernel_rfl) (fun _ => rfl) (fun s => by kernel_rfl)
        · exact ObOp.skip (by kernel_rfl) (fun _ => rfl) (fun s => by kernel_rfl)
        · refine ObOp.val (fun s => .bool false) (by kernel_rfl) (fun _ => rfl) (fun s => by kernel_rfl) (fun s D w hd hcl h => ?_)
          go_simp
          try rfl
        · refine ObOp.val (fun s => .bool false) (by kernel_rfl) (fun _ => rfl) (fun s => by kernel_rfl) (fun s D w hd hcl h => ?_)
          go_simp
          try rfl
        · refine ObOp.val (fun s => .bool false) (by kernel_rfl) (fun _ => rfl) (fun s => by kernel_rfl) (fun s D w hd hcl h => ?_)
          go_simp
          try rfl
        · refine ObOp.val (fun s => .bool true) (by kernel_rfl) (fun _ => rfl) (fun s => by kernel_rfl) (fun s D w hd hcl h => ?_)
          go_simp
          try rfl
        · refine ObOp.val (fun s => .bool true) (by kernel_rfl) (fun _ => rfl) (fun s => by kernel_rfl) (fun s D w hd hcl h => ?_)
          go_simp
          try rfl
        · refine ObOp.val (fun s => stV g) (by kernel_rfl) (fun _ => rfl) (fun s => by kernel_rfl) (fun s D w hd hcl h => ?_)
          exact run_load_row (by rfl) (by rfl) 29 _ (0, 0) _ (h.k _ List.mem_cons_self).h Tryz.underlying29 rfl szS
        · refine ObOp.val (fun s => stV g) (by kernel_rfl) (fun _ => rfl) (fun s => by kernel_rfl) (fun s D w hd hcl h => ?_)
          exact run_load_row (by rfl) (by rfl) 29 _ (0, 0) _ (h.k _ (List.mem_cons_of_mem _ (List.mem_cons_of_mem _ (List.mem_cons_of_mem _ (List.mem_cons_of_mem _ (List.mem_cons_of_mem _ (List.mem_cons_of_mem _ List.mem_cons_self))))))).h Tryz.underlying29 rfl szS
        · refine ObOp.val (fun s => .bool true) (by kernel_rfl) (fun _ => rfl) (fun s => by kernel_rfl) (fun s D w hd hcl h => ?_)
          exact run_eqS (by rfl) g rfl rfl
        · refine ObOp.val (fun s => .bool true) (by kernel_rfl) (fun _ => rfl) (fun s => by kernel_rfl) (fun s D w hd hcl h => ?_)
          go_simp
          try rfl
        · refine ObOp.val (fun s => .bool true) (by kernel_rfl) (fun _ => rfl) (fun s => by kernel_rfl) (fun s D w hd hcl h => ?_)
          go_simp
          try rfl
        · refine ObOp.val (fun s => .pointer (some ⟨XC, 3, none⟩)) (by kernel_rfl) (fun _ => rfl) (fun s => by kernel_rfl) (fun s D w hd hcl h => ?_)
          go_simp
          try rfl
        · refine ObOp.val (fun s => .int .i64 1) (by kernel_rfl) (fun _ => rfl) (fun s => by kernel_rfl) (fun s D w hd hcl h => ?_)
          have c := (h.k _ (List.mem_cons_of_mem _ List.mem_cons_self)).cell (i := 3) (v := .int .i64 1) rfl
          go_simp
          try rfl
        · refine ObOp.val (fun s => .bool true) (by kernel_rfl) (fun _ => rfl) (fun s => by kernel_rfl) (fun s D w hd hcl h => ?_)
          go_simp
          try rfl
        · refine ObOp.val (fun s => .bool true) (by kernel_rfl) (fun _ => rfl) (fun s => by kernel_rfl) (fun s D w hd hcl h => ?_)
          go_simp
          try rfl
        · refine ObOp.val (fun s => .bool true) (by kernel_rfl) (fun _ => rfl) (fun s => by kernel_rfl) (fun s D w hd hcl h => ?_)
          go_simp
          try rfl
        · refine ObOp.val (fun s => .bool true) (by kernel_rfl) (fun _ => rfl) (fun s => by kernel_rfl) (fun s D w hd hcl h => ?_)
          go_simp
          try rfl
        · refine ObOp.val (fun s => .bool true) (by kernel_rfl) (fun _ => rfl) (fun s => by kernel_rfl) (fun s D w hd hcl h => ?_)
          go_simp
          try rfl
      go_wp2_with fail
      exact bodyPost_ret (v := .bool true) (by simp [results, Tryz.results13, go_sem]) rfl ⟨rfl, by rw [hS0]; exact h.g.done⟩
end Go.Proofs.YtcdoidnfdkodoaaGreatDoor
