/- OperandPlaces. -/
import Derived.Test.YtmlaancmacipoaaG7
import Derived.Test.YtmlaancmacipoaaWf
namespace Go.Proofs.Ytmlaancmacipoaa
open Go.RowKit
set_option linter.unusedVariables false
set_option linter.unusedSimpArgs false
set_option linter.unusedSectionVars false

abbrev cells8 (a : Nat → Int) : Array Value := #[.int .u32 (a 0), .int .u32 (a 1), .int .u32 (a 2), .int .u32 (a 3), .int .u32 (a 4), .int .u32 (a 5), .int .u32 (a 6), .int .u32 (a 7)]
theorem items8 (a : Nat → Int) (W : World) : ∀ is : List Nat, (∀ i ∈ is, i < 8) → (Op.eqItems 9998 23 1 (cells8 a) (cells8 a) is).run Try.prog W = .ok true W
  | [], _ => by simp [Op.eqItems]
  | i :: is, h => by
    have hi := h i (by simp)
    have ha : (cells8 a)[i * 1]? = some (.int .u32 (a i)) := by
      rcases (by omega : i = 0 ∨ i = 1 ∨ i = 2 ∨ i = 3 ∨ i = 4 ∨ i = 5 ∨ i = 6 ∨ i = 7) with rfl | rfl | rfl | rfl | rfl | rfl | rfl | rfl <;> rfl
    have hp := run_part_plain (P := Try.prog) W (e := 23) (by kernel_rfl) ha
    have ih := items8 a W is (fun j hj => h j (by simp [hj]))
    simp only [Op.eqItems, Sem.run_bind, hp, Result.andThen_ok, run_equalIn_int W 9997 23 .u32 .u32 (a i) (a i) Try.underlying23]
    simpa using ih
theorem eq8 (a : Nat → Int) (W : World) : (Op.equalIn 9999 40 (.agg (cells8 a)) (.agg (cells8 a))).run Try.prog W = .ok true W := by
  have hsome : (Try.prog.info? 23).isSome = true := by kernel_rfl
  obtain ⟨i, hi⟩ := Option.isSome_iff_exists.1 hsome
  rw [run_equalIn_array W 9998 _ _ Try.underlying40 hi, show Try.prog.cellsOf 23 = 1 by kernel_rfl]
  exact items8 a W _ (fun i hi => by simpa using hi)
theorem run_eqS {ev : Operand → Value} {o : Oper} {w : World} {x y : Operand} (ho : o.op = .binOp .eql 44 x y 44) (g : Gs) (hx : ev x = stV g) (hy : ev y = stV g) : (execOp ev o).run Try.prog w = .ok (.value (.bool true)) w := by
  have heq := eq8 g.r w
  unfold execOp
  simp only [ho, hx, hy]
  go_simp
theorem regV_nat (g : Gs) {j : Nat} (h : j < 8) : regV g (j : Int) = g.r j := by
  unfold regV
  rw [if_neg (by omega), show ((j : Int) % 8).toNat = j by omega]
section
variable {n0 : Nat} {w0 w : World} {B : Nat} {m : Mm}
theorem o_write (p : Pg n0 w0 w B m) (g : Gs) {j : Nat} (hj : j < 8) (v : Int) : Calls Try.prog 15 #[mp B, stV g, opV ⟨1, j, 0, 0, 0, 0⟩, .int .i64 4, .int .u32 v] w fun e w' => e = .returned (.tuple #[stV (setr g j v), fltV 0 0 0 0, .bool true]) ∧ Pg n0 w0 w' B m ∧ But [B] w.heap.size w w' :=
  (Write_reg p.h g ⟨1, j, 0, 0, 0, 0⟩ 4 v j hj rfl rfl rfl).mono fun e w' h => ⟨h.1, p.step h.2.1 p.ok h.2.2, h.2.2⟩
theorem o_read (p : Pg n0 w0 w B m) (g : Gs) {j : Nat} (hj : j < 8) (v : Int) : Calls Try.prog 16 #[mp B, stV (setr g j v), opV ⟨1, j, 0, 0, 0, 0⟩, .int .i64 4] w fun e w' => e = .returned (.tuple #[.int .u32 v, fltV 0 0 0 0, .bool true]) ∧ Pg n0 w0 w' B m ∧ Below w.heap.size w w' := by
  have q := Read_reg p.h (setr g j v) ⟨1, j, 0, 0, 0, 0⟩ 4 rfl rfl
  rw [show regV (setr g j v) (On.r ⟨1, j, 0, 0, 0, 0⟩) = v from (regV_nat (setr g j v) hj).trans (by simp [setr])] at q
  exact q.mono fun e w' h => ⟨h.1, p.below h.2, h.2⟩
end
theorem pl_full (g : Gs) {j i : Nat} (hj : j < 8) (hi : i < 8) (m q : Int) : plO g ⟨3, 0, m, j, i, q⟩ = IntKind.u32.wrap (IntKind.u32.wrap (g.r j + IntKind.u32.wrap (g.r i * q)) + m) := by
  have hw : ∀ z : Int, IntKind.u32.wrap z = z % 4294967296 := fun z => by simp [IntKind.wrap, IntKind.signed, IntKind.bits]
  rw [hw, hw, hw]
  unfold plO
  rw [if_pos rfl]
  show ((regV g j + regV g i * q % 4294967296) % 4294967296 + m) % 4294967296 = _
  rw [regV_nat g hj, regV_nat g hi]
theorem pl_m (g : Gs) (m : Int) (h : 0 ≤ m ∧ m ≤ 4294967295) : plO g ⟨3, 0, m, -1, -1, 1⟩ = m := by
  unfold plO
  rw [if_pos rfl]
  show ((regV g (-1) + regV g (-1) * 1 % 4294967296) % 4294967296 + m) % 4294967296 = m
  rw [show regV g (-1) = 0 from rfl]
  omega
set_option maxRecDepth 100000 in
set_option maxHeartbeats 4000000 in
theorem oplaces_walk (g : Gs) (hg : g.ok) (j i : Nat) (hj : j < 8) (hi : i < 8) (a1 a2 a3 m v : Int) (w1 : 0 ≤ a1 ∧ a1 ≤ 255) (w2 : 0 ≤ a2 ∧ a2 ≤ 255) (w3 : 0 ≤ a3 ∧ a3 ≤ 255) (w4 : 0 ≤ m ∧ m ≤ 4294967295) (w5 : 0 ≤ v ∧ v ≤ 4294967295) (e1 : a1 % 8 = j) (e2 : a2 % 8 = i) (w : World) :
    Calls Try.prog 4 #[stV g, .int .u8 a1, .int .u8 a2, .int .u8 a3, .int .u32 m, .int .u32 v] w fun e w' => e = .returned (.bool true) ∧ Below w.heap.size w w' := by
  have b0 := (Below.refl w.heap.size w).alloc (Nat.le_refl _) (.cells (stA g) 44)
  have kS := Blk.new w 44 (stA g)
  have hK := Lib.hid (fun W => oknown W)
  have hNew := Lib.hid (fun W => pNew W)
  go_enter Try.func4, Try.ntmps4
  go_upto_region 1 with fail
  generalize w.alloc (.cells (stA g) 44) = W0 at *
  go_upto_region 4 with (first | ((with_reducible refine (hK.out _).mono ?_); rintro e W1 ⟨rfl, b1⟩))
  generalize (2 : Int) ^ (a3 % 4).toNat % 4294967296 = q at *
  have b01 := b0.trans (b1.mono b0.size)
  replace kS := kS.below b1 kS.lt
  clear b0 b1
  go_upto_region 6 with fail
  have kP : Blk ((W1.alloc (.cells (op6 ⟨3, 0, m, j, i, q⟩) 47)).alloc (.cells (op6 ⟨3, 0, m, -1, -1, 1⟩) 47)) W1.heap.size 47 (op6 ⟨3, 0, m, j, i, q⟩) := (Blk.new _ _ _).alloc _
  have kQ : Blk ((W1.alloc (.cells (op6 ⟨3, 0, m, j, i, q⟩) 47)).alloc (.cells (op6 ⟨3, 0, m, -1, -1, 1⟩) 47)) (W1.heap.size + 1) 47 (op6 ⟨3, 0, m, -1, -1, 1⟩) := by have := Blk.new (W1.alloc (.cells (op6 ⟨3, 0, m, j, i, q⟩) 47)) 47 (op6 ⟨3, 0, m, -1, -1, 1⟩); rwa [World.size_alloc] at this
  have b2 := (b01.alloc b01.size (.cells (op6 ⟨3, 0, m, j, i, q⟩) 47)).alloc (by have := b01.size; simp; omega) (.cells (op6 ⟨3, 0, m, -1, -1, 1⟩) 47)
  replace kS := (kS.alloc (.cells (op6 ⟨3, 0, m, j, i, q⟩) 47)).alloc (.cells (op6 ⟨3, 0, m, -1, -1, 1⟩) 47)
  clear b01
  generalize (W1.alloc (.cells (op6 ⟨3, 0, m, j, i, q⟩) 47)).alloc (.cells (op6 ⟨3, 0, m, -1, -1, 1⟩) 47) = W2 at *
  go_upto_region 7 with (first | ((with_reducible refine (hNew.out _).mono ?_); rintro e W3 ⟨rfl, p3⟩))
  have zS := kS.lt
  have zP := kP.lt
  have zQ := kQ.lt
  have b3 := p3.done
  have hsz := p3.sz
  have HB2 := Lib.hid b2
  have hB2 := b2.size
  replace kS := kS.below b3 kS.lt
  replace kP := kP.below b3 kP.lt
  replace kQ := kQ.below b3 kQ.lt
  generalize hBe : W2.heap.size = B at *
  generalize hPe : W1.heap.size = P at *
  have nS := Lib.hid (show ¬ w.heap.size = B by omega)
  have nP := Lib.hid (show ¬ P = B by omega)
  have nQ := Lib.hid (show ¬ P + 1 = B by omega)
  have HB := Lib.hid hB2
  clear hBe hPe zS zP zQ b3 hsz b2 hB2
  have q3 := Lib.hid (o_write p3 g hj v)
  go_upto_region 8 with (first | (with_reducible refine load_st rfl _ rfl w.heap.size (stA g) rfl kS rfl ?_) | ((with_reducible refine q3.out.mono ?_); rintro e W4 ⟨rfl, p4, b4⟩))
  replace kS := kS.but b4 kS.lt (by simpa using nS.out)
  replace kP := kP.but b4 kP.lt (by simpa using nP.out)
  replace kQ := kQ.but b4 kQ.lt (by simpa using nQ.out)
  have kT := (Blk.new W4 44 (stA (setr g j v))).alloc (.cells #[.int .i64 0, .int .u32 0, .int .u32 0, .int .i64 0] 32)
  have a5 := ((Below.refl W4.heap.size W4).alloc (Nat.le_refl _) (.cells (stA (setr g j v)) 44)).alloc (by simp) (.cells #[.int .i64 0, .int .u32 0, .int .u32 0, .int .i64 0] 32)
  replace kS := kS.below a5 kS.lt
  replace kP := kP.below a5 kP.lt
  replace kQ := kQ.below a5 kQ.lt
  have p5 := p4.below a5
  clear a5 b4 q3 p3 p4
  generalize W4.heap.size = T at *
  generalize (W4.alloc (.cells (stA (setr g j v)) 44)).alloc (.cells #[.int .i64 0, .int .u32 0, .int .u32 0, .int .i64 0] 32) = W5 at *
  have q5 := Lib.hid (o_read p5 g hj v)
  go_upto_region 9 with (first | (with_reducible refine load_st rfl _ rfl T (stA (setr g j v)) rfl kT rfl ?_) | ((with_reducible refine q5.out.mono ?_); rintro e W6 ⟨rfl, p6, b6⟩))
  have a7 := b6.alloc b6.size (.cells #[.int .i64 0, .int .u32 0, .int .u32 0, .int .i64 0] 32)
  replace kS := kS.below a7 kS.lt
  replace kP := kP.below a7 kP.lt
  replace kQ := kQ.below a7 kQ.lt
  replace kT := kT.below a7 kT.lt
  have p7 := p6.below ((Below.refl _ _).alloc (Nat.le_refl _) (.cells #[.int .i64 0, .int .u32 0, .int .u32 0, .int .i64 0] 32))
  clear a7 b6 p6 p5 q5
  generalize W6.alloc (.cells #[.int .i64 0, .int .u32 0, .int .u32 0, .int .i64 0] 32) = W7 at *
  go_upto_region 10 with (first | (with_reducible refine load_st rfl _ rfl w.heap.size (stA g) rfl kS rfl ?_))
  have kN := Blk.new W7 44 (stA g)
  have p8 := p7.below ((Below.refl W7.heap.size W7).alloc (Nat.le_refl _) (.cells (stA (setr g j v)) 44))
  have cN := kN.cell (st_at g hj)
  have fN := kN.fr j
  have l0 : ((j : Int) < 0) = False := eq_false (by omega)
  have l8 : ((j : Int) < 8) = True := eq_true (by omega)
  have m0 : ((i : Int) < 0) = False := eq_false (by omega)
  have m8 : ((i : Int) < 8) = True := eq_true (by omega)
  have hset := st_set g hj v
  have kN2 := Blk.new W7 44 (stA (setr g j v))
  replace kS := kS.alloc (.cells (stA (setr g j v)) 44)
  replace kP := kP.alloc (.cells (stA (setr g j v)) 44)
  replace kQ := kQ.alloc (.cells (stA (setr g j v)) 44)
  replace kT := kT.alloc (.cells (stA (setr g j v)) 44)
  clear kN p7
  go_upto_region 11 with fail
  clear cN fN hset
  generalize W7.heap.size = N at *
  generalize W7.alloc (.cells (stA (setr g j v)) 44) = W8 at *
  have hP1 := Lib.hid (fun W => Place_any g ⟨3, 0, m, j, i, q⟩ W)
  rw [pl_full g hj hi] at hP1
  have hP2 := Lib.hid (fun W => Place_any g ⟨3, 0, m, -1, -1, 1⟩ W)
  rw [pl_m g m w4] at hP2
  have hP3 : RowKit.Hid (∀ W, Calls Try.prog 17 #[stV g, opV ⟨2, 0, 9, 0, 0, 0⟩] W fun e w' => e = .returned (.int .u32 0) ∧ Below W.heap.size W w') := Lib.hid (fun W => Place_any g ⟨2, 0, 9, 0, 0, 0⟩ W)
  have p9 := p8.below (Below.refl W8.heap.size W8).drew
  refine wp_region_held_drew (S := fun V => Blk V w.heap.size 44 (stA g) ∧ Blk V P 47 (op6 ⟨3, 0, m, j, i, q⟩) ∧ Blk V (P + 1) 47 (op6 ⟨3, 0, m, -1, -1, 1⟩) ∧ Blk V T 44 (stA (setr g j v)) ∧ Blk V N 44 (stA (setr g j v))) (by kernel_rfl) ⟨kS.drew, kP.drew, kQ.drew, kT.drew, kN2.drew⟩ (fun hH => ?_)
  clear kS kP kQ kT kN2 p8
  generalize W8.drew = W9 at *
  refine wpAnyH_take (i := 0) (v := stV g) rfl (by kernel_rfl) (by kernel_rfl) (by kernel_rfl) (fun _ _ _ h => h) (Or.inl ⟨by kernel_rfl, ?_⟩) hH ?_
  · intro W hS
    exact run_load_row (by rfl) (by rfl) 44 _ (0, 0) _ hS.1.h Try.underlying44 rfl szS
  simp only [Act.put, List.setIfInBounds_toArray, List.set_cons_zero, List.set_cons_succ]
  refine wpAnyH_take (i := 1) (v := opV ⟨3, 0, m, j, i, q⟩) rfl (by kernel_rfl) (by kernel_rfl) (by kernel_rfl) (fun _ _ _ h => h) (Or.inl ⟨by kernel_rfl, ?_⟩) hH ?_
  · intro W hS
    exact run_load_row (by rfl) (by rfl) 47 _ (0, 0) _ hS.2.1.h Try.underlying47 rfl szO
  simp only [Act.put, List.setIfInBounds_toArray, List.set_cons_zero, List.set_cons_succ]
  refine wpAnyH_take (i := 3) (v := ?_) rfl (by kernel_rfl) (by kernel_rfl) (by kernel_rfl) (fun _ _ _ h => h) (Or.inl ⟨by kernel_rfl, ?_⟩) hH ?_
  rotate_left
  · intro W hS
    go_simp
    try rfl
  simp only [Act.put, List.setIfInBounds_toArray, List.set_cons_zero, List.set_cons_succ, List.getElem_toArray, List.getElem_cons_succ, List.getElem_cons_zero]
  refine wpAnyH_take (i := 4) (v := ?_) rfl (by kernel_rfl) (by kernel_rfl) (by kernel_rfl) (fun _ _ _ h => h) (Or.inl ⟨by kernel_rfl, ?_⟩) hH ?_
  rotate_left
  · intro W hS
    go_simp
    try rfl
  simp only [Act.put, List.setIfInBounds_toArray, List.set_cons_zero, List.set_cons_succ, List.getElem_toArray, List.getElem_cons_succ, List.getElem_cons_zero]
  refine wpAnyH_take (i := 5) (v := ?_) rfl (by kernel_rfl) (by kernel_rfl) (by kernel_rfl) (fun _ _ _ h => h) (Or.inl ⟨by kernel_rfl, ?_⟩) hH ?_
  rotate_left
  · intro W hS
    go_simp
    try rfl
  simp only [Act.put, List.setIfInBounds_toArray, List.set_cons_zero, List.set_cons_succ, List.getElem_toArray, List.getElem_cons_succ, List.getElem_cons_zero]
  refine wpAnyH_take (i := 6) (v := ?_) rfl (by kernel_rfl) (by kernel_rfl) (by kernel_rfl) (fun _ _ _ h => h) (Or.inl ⟨by kernel_rfl, ?_⟩) hH ?_
  rotate_left
  · intro W hS
    have cj := hS.1.cell (st_at g hj)
    go_simp
    try rfl
  simp only [Act.put, List.setIfInBounds_toArray, List.set_cons_zero, List.set_cons_succ, List.getElem_toArray, List.getElem_cons_succ, List.getElem_cons_zero]
  refine wpAnyH_take (i := 7) (v := ?_) rfl (by kernel_rfl) (by kernel_rfl) (by kernel_rfl) (fun _ _ _ h => h) (Or.inl ⟨by kernel_rfl, ?_⟩) hH ?_
  rotate_left
  · intro W hS
    go_simp
    try rfl
  simp only [Act.put, List.setIfInBounds_toArray, List.set_cons_zero, List.set_cons_succ, List.getElem_toArray, List.getElem_cons_succ, List.getElem_cons_zero]
  refine wpAnyH_take (i := 8) (v := ?_) rfl (by kernel_rfl) (by kernel_rfl) (by kernel_rfl) (fun _ _ _ h => h) (Or.inl ⟨by kernel_rfl, ?_⟩) hH ?_
  rotate_left
  · intro W hS
    go_simp
    try rfl
  simp only [Act.put, List.setIfInBounds_toArray, List.set_cons_zero, List.set_cons_succ, List.getElem_toArray, List.getElem_cons_succ, List.getElem_cons_zero]
  refine wpAnyH_take (i := 9) (v := ?_) rfl (by kernel_rfl) (by kernel_rfl) (by kernel_rfl) (fun _ _ _ h => h) (Or.inl ⟨by kernel_rfl, ?_⟩) hH ?_
  rotate_left
  · intro W hS
    go_simp
    try rfl
  simp only [Act.put, List.setIfInBounds_toArray, List.set_cons_zero, List.set_cons_succ, List.getElem_toArray, List.getElem_cons_succ, List.getElem_cons_zero]
  refine wpAnyH_take (i := 10) (v := ?_) rfl (by kernel_rfl) (by kernel_rfl) (by kernel_rfl) (fun _ _ _ h => h) (Or.inl ⟨by kernel_rfl, ?_⟩) hH ?_
  rotate_left
  · intro W hS
    have cj := hS.1.cell (st_at g hi)
    go_simp
    try rfl
  simp only [Act.put, List.setIfInBounds_toArray, List.set_cons_zero, List.set_cons_succ, List.getElem_toArray, List.getElem_cons_succ, List.getElem_cons_zero]
  refine wpAnyH_take (i := 11) (v := ?_) rfl (by kernel_rfl) (by kernel_rfl) (by kernel_rfl) (fun _ _ _ h => h) (Or.inl ⟨by kernel_rfl, ?_⟩) hH ?_
  rotate_left
  · intro W hS
    go_simp
    try rfl
  simp only [Act.put, List.setIfInBounds_toArray, List.set_cons_zero, List.set_cons_succ, List.getElem_toArray, List.getElem_cons_succ, List.getElem_cons_zero]
  refine wpAnyH_take (i := 12) (v := ?_) rfl (by kernel_rfl) (by kernel_rfl) (by kernel_rfl) (fun _ _ _ h => h) (Or.inl ⟨by kernel_rfl, ?_⟩) hH ?_
  rotate_left
  · intro W hS
    go_simp
    try rfl
  simp only [Act.put, List.setIfInBounds_toArray, List.set_cons_zero, List.set_cons_succ, List.getElem_toArray, List.getElem_cons_succ, List.getElem_cons_zero]
  refine wpAnyH_take (i := 13) (v := ?_) rfl (by kernel_rfl) (by kernel_rfl) (by kernel_rfl) (fun _ _ _ h => h) (Or.inl ⟨by kernel_rfl, ?_⟩) hH ?_
  rotate_left
  · intro W hS
    go_simp
    try rfl
  simp only [Act.put, List.setIfInBounds_toArray, List.set_cons_zero, List.set_cons_succ, List.getElem_toArray, List.getElem_cons_succ, List.getElem_cons_zero]
  refine wpAnyH_take (i := 14) (v := ?_) rfl (by kernel_rfl) (by kernel_rfl) (by kernel_rfl) (fun _ _ _ h => h) (Or.inl ⟨by kernel_rfl, ?_⟩) hH ?_
  rotate_left
  · intro W hS
    go_simp
    try rfl
  simp only [Act.put, List.setIfInBounds_toArray, List.set_cons_zero, List.set_cons_succ, List.getElem_toArray, List.getElem_cons_succ, List.getElem_cons_zero]
  refine wpAnyH_take (i := 15) (v := ?_) rfl (by kernel_rfl) (by kernel_rfl) (by kernel_rfl) (fun _ _ _ h => h) (Or.inl ⟨by kernel_rfl, ?_⟩) hH ?_
  rotate_left
  · intro W hS
    go_simp
    try rfl
  simp only [Act.put, List.setIfInBounds_toArray, List.set_cons_zero, List.set_cons_succ, List.getElem_toArray, List.getElem_cons_succ, List.getElem_cons_zero]
  refine wpAnyH_ready (rs := [2]) (by kernel_rfl) (by simp) ?_
  refine AllReadyH.cons rfl (fun K hK => ?_) AllReadyH.nil
  go_simp
  with_reducible refine (hP1.out _).mono ?_
  rintro e Wc0 ⟨rfl, bc0⟩
  have hH0 := And.intro (hH.1.below bc0 hH.1.lt) (And.intro (hH.2.1.below bc0 hH.2.1.lt) (And.intro (hH.2.2.1.below bc0 hH.2.2.1.lt) (And.intro (hH.2.2.2.1.below bc0 hH.2.2.2.1.lt) (hH.2.2.2.2.below bc0 hH.2.2.2.2.lt))))
  refine hK.out _ _ hH0 (fun _ => ?_)
  clear hK K
  try simp only [Act.put, List.setIfInBounds_toArray, List.set_cons_zero, List.set_cons_succ]
  refine wpAnyH_take (i := 16) (v := ?_) rfl (by kernel_rfl) (by kernel_rfl) (by kernel_rfl) (fun _ _ _ h => h) (Or.inl ⟨by kernel_rfl, ?_⟩) hH0 ?_
  rotate_left
  · intro W hS
    go_simp
    try rfl
  simp only [Act.put, List.setIfInBounds_toArray, List.set_cons_zero, List.set_cons_succ, List.getElem_toArray, List.getElem_cons_succ, List.getElem_cons_zero]
  refine wpAnyH_take (i := 17) (v := ?_) rfl (by kernel_rfl) (by kernel_rfl) (by kernel_rfl) (fun _ _ _ h => h) (Or.inl ⟨by kernel_rfl, ?_⟩) hH0 ?_
  rotate_left
  · intro W hS
    go_simp
    try rfl
  simp only [Act.put, List.setIfInBounds_toArray, List.set_cons_zero, List.set_cons_succ, List.getElem_toArray, List.getElem_cons_succ, List.getElem_cons_zero]
  refine wpAnyH_take (i := 18) (v := stV g) rfl (by kernel_rfl) (by kernel_rfl) (by kernel_rfl) (fun _ _ _ h => h) (Or.inl ⟨by kernel_rfl, ?_⟩) hH0 ?_
  · intro W hS
    exact run_load_row (by rfl) (by rfl) 44 _ (0, 0) _ hS.1.h Try.underlying44 rfl szS
  simp only [Act.put, List.setIfInBounds_toArray, List.set_cons_zero, List.set_cons_succ]
  refine wpAnyH_take (i := 19) (v := opV ⟨3, 0, m, -1, -1, 1⟩) rfl (by kernel_rfl) (by kernel_rfl) (by kernel_rfl) (fun _ _ _ h => h) (Or.inl ⟨by kernel_rfl, ?_⟩) hH0 ?_
  · intro W hS
    exact run_load_row (by rfl) (by rfl) 47 _ (0, 0) _ hS.2.2.1.h Try.underlying47 rfl szO
  simp only [Act.put, List.setIfInBounds_toArray, List.set_cons_zero, List.set_cons_succ]
  refine wpAnyH_take (i := 21) (v := ?_) rfl (by kernel_rfl) (by kernel_rfl) (by kernel_rfl) (fun _ _ _ h => h) (Or.inl ⟨by kernel_rfl, ?_⟩) hH0 ?_
  rotate_left
  · intro W hS
    go_simp
    try rfl
  simp only [Act.put, List.setIfInBounds_toArray, List.set_cons_zero, List.set_cons_succ, List.getElem_toArray, List.getElem_cons_succ, List.getElem_cons_zero]
  refine wpAnyH_ready (rs := [20]) (by kernel_rfl) (by simp) ?_
  refine AllReadyH.cons rfl (fun K hK => ?_) AllReadyH.nil
  go_simp
  with_reducible refine (hP2.out _).mono ?_
  rintro e Wc1 ⟨rfl, bc1⟩
  have hH1 := And.intro (hH0.1.below bc1 hH0.1.lt) (And.intro (hH0.2.1.below bc1 hH0.2.1.lt) (And.intro (hH0.2.2.1.below bc1 hH0.2.2.1.lt) (And.intro (hH0.2.2.2.1.below bc1 hH0.2.2.2.1.lt) (hH0.2.2.2.2.below bc1 hH0.2.2.2.2.lt))))
  refine hK.out _ _ hH1 (fun _ => ?_)
  clear hK K
  try simp only [Act.put, List.setIfInBounds_toArray, List.set_cons_zero, List.set_cons_succ]
  refine wpAnyH_take (i := 22) (v := ?_) rfl (by kernel_rfl) (by kernel_rfl) (by kernel_rfl) (fun _ _ _ h => h) (Or.inl ⟨by kernel_rfl, ?_⟩) hH1 ?_
  rotate_left
  · intro W hS
    go_simp
    try rfl
  simp only [Act.put, List.setIfInBounds_toArray, List.set_cons_zero, List.set_cons_succ, List.getElem_toArray, List.getElem_cons_succ, List.getElem_cons_zero]
  refine wpAnyH_take (i := 23) (v := ?_) rfl (by kernel_rfl) (by kernel_rfl) (by kernel_rfl) (fun _ _ _ h => h) (Or.inl ⟨by kernel_rfl, ?_⟩) hH1 ?_
  rotate_left
  · intro W hS
    go_simp
    try rfl
  simp only [Act.put, List.setIfInBounds_toArray, List.set_cons_zero, List.set_cons_succ, List.getElem_toArray, List.getElem_cons_succ, List.getElem_cons_zero]
  refine wpAnyH_take (i := 24) (v := ?_) rfl (by kernel_rfl) (by kernel_rfl) (by kernel_rfl) (fun _ _ _ h => h) (Or.inl ⟨by kernel_rfl, ?_⟩) hH1 ?_
  rotate_left
  · intro W hS
    go_simp
    try rfl
  simp only [Act.put, List.setIfInBounds_toArray, List.set_cons_zero, List.set_cons_succ, List.getElem_toArray, List.getElem_cons_succ, List.getElem_cons_zero]
  refine wpAnyH_take (i := 25) (v := stV g) rfl (by kernel_rfl) (by kernel_rfl) (by kernel_rfl) (fun _ _ _ h => h) (Or.inl ⟨by kernel_rfl, ?_⟩) hH1 ?_
  · intro W hS
    exact run_load_row (by rfl) (by rfl) 44 _ (0, 0) _ hS.1.h Try.underlying44 rfl szS
  simp only [Act.put, List.setIfInBounds_toArray, List.set_cons_zero, List.set_cons_succ]
  refine wpAnyH_take (i := 26) (v := ?_) rfl (by kernel_rfl) (by kernel_rfl) (by kernel_rfl) (fun _ _ _ h => h) (Or.inl ⟨by kernel_rfl, ?_⟩) hH1 ?_
  rotate_left
  · intro W hS
    go_simp
    try rfl
  simp only [Act.put, List.setIfInBounds_toArray, List.set_cons_zero, List.set_cons_succ, List.getElem_toArray, List.getElem_cons_succ, List.getElem_cons_zero]
  refine wpAnyH_ready (rs := [27]) (by kernel_rfl) (by simp) ?_
  refine AllReadyH.cons rfl (fun K hK => ?_) AllReadyH.nil
  go_simp
  with_reducible refine (hP3.out _).mono ?_
  rintro e Wc2 ⟨rfl, bc2⟩
  have hH2 := And.intro (hH1.1.below bc2 hH1.1.lt) (And.intro (hH1.2.1.below bc2 hH1.2.1.lt) (And.intro (hH1.2.2.1.below bc2 hH1.2.2.1.lt) (And.intro (hH1.2.2.2.1.below bc2 hH1.2.2.2.1.lt) (hH1.2.2.2.2.below bc2 hH1.2.2.2.2.lt))))
  refine hK.out _ _ hH2 (fun _ => ?_)
  clear hK K
  try simp only [Act.put, List.setIfInBounds_toArray, List.set_cons_zero, List.set_cons_succ]
  refine wpAnyH_take (i := 28) (v := ?_) rfl (by kernel_rfl) (by kernel_rfl) (by kernel_rfl) (fun _ _ _ h => h) (Or.inl ⟨by kernel_rfl, ?_⟩) hH2 ?_
  rotate_left
  · intro W hS
    go_simp
    try rfl
  simp only [Act.put, List.setIfInBounds_toArray, List.set_cons_zero, List.set_cons_succ, List.getElem_toArray, List.getElem_cons_succ, List.getElem_cons_zero]
  refine wpAnyH_take (i := 29) (v := ?_) rfl (by kernel_rfl) (by kernel_rfl) (by kernel_rfl) (fun _ _ _ h => h) (Or.inl ⟨by kernel_rfl, ?_⟩) hH2 ?_
  rotate_left
  · intro W hS
    go_simp
    try rfl
  simp only [Act.put, List.setIfInBounds_toArray, List.set_cons_zero, List.set_cons_succ, List.getElem_toArray, List.getElem_cons_succ, List.getElem_cons_zero]
  refine wpAnyH_take (i := 30) (v := ?_) rfl (by kernel_rfl) (by kernel_rfl) (by kernel_rfl) (fun _ _ _ h => h) (Or.inl ⟨by kernel_rfl, ?_⟩) hH2 ?_
  rotate_left
  · intro W hS
    go_simp
    try rfl
  simp only [Act.put, List.setIfInBounds_toArray, List.set_cons_zero, List.set_cons_succ, List.getElem_toArray, List.getElem_cons_succ, List.getElem_cons_zero]
  refine wpAnyH_take (i := 31) (v := ?_) rfl (by kernel_rfl) (by kernel_rfl) (by kernel_rfl) (fun _ _ _ h => h) (Or.inl ⟨by kernel_rfl, ?_⟩) hH2 ?_
  rotate_left
  · intro W hS
    go_simp
    try rfl
  simp only [Act.put, List.setIfInBounds_toArray, List.set_cons_zero, List.set_cons_succ, List.getElem_toArray, List.getElem_cons_succ, List.getElem_cons_zero]
  refine wpAnyH_take (i := 32) (v := ?_) rfl (by kernel_rfl) (by kernel_rfl) (by kernel_rfl) (fun _ _ _ h => h) (Or.inl ⟨by kernel_rfl, ?_⟩) hH2 ?_
  rotate_left
  · intro W hS
    go_simp
    try rfl
  simp only [Act.put, List.setIfInBounds_toArray, List.set_cons_zero, List.set_cons_succ, List.getElem_toArray, List.getElem_cons_succ, List.getElem_cons_zero]
  refine wpAnyH_take (i := 33) (v := ?_) rfl (by kernel_rfl) (by kernel_rfl) (by kernel_rfl) (fun _ _ _ h => h) (Or.inl ⟨by kernel_rfl, ?_⟩) hH2 ?_
  rotate_left
  · intro W hS
    go_simp
    try rfl
  simp only [Act.put, List.setIfInBounds_toArray, List.set_cons_zero, List.set_cons_succ, List.getElem_toArray, List.getElem_cons_succ, List.getElem_cons_zero]
  refine wpAnyH_take (i := 34) (v := ?_) rfl (by kernel_rfl) (by kernel_rfl) (by kernel_rfl) (fun _ _ _ h => h) (Or.inl ⟨by kernel_rfl, ?_⟩) hH2 ?_
  rotate_left
  · intro W hS
    go_simp
    try rfl
  simp only [Act.put, List.setIfInBounds_toArray, List.set_cons_zero, List.set_cons_succ, List.getElem_toArray, List.getElem_cons_succ, List.getElem_cons_zero]
  refine wpAnyH_take (i := 35) (v := ?_) rfl (by kernel_rfl) (by kernel_rfl) (by kernel_rfl) (fun _ _ _ h => h) (Or.inl ⟨by kernel_rfl, ?_⟩) hH2 ?_
  rotate_left
  · intro W hS
    go_simp
    try rfl
  simp only [Act.put, List.setIfInBounds_toArray, List.set_cons_zero, List.set_cons_succ, List.getElem_toArray, List.getElem_cons_succ, List.getElem_cons_zero]
  refine wpAnyH_take (i := 36) (v := ?_) rfl (by kernel_rfl) (by kernel_rfl) (by kernel_rfl) (fun _ _ _ h => h) (Or.inl ⟨by kernel_rfl, ?_⟩) hH2 ?_
  rotate_left
  · intro W hS
    go_simp
    try rfl
  simp only [Act.put, List.setIfInBounds_toArray, List.set_cons_zero, List.set_cons_succ, List.getElem_toArray, List.getElem_cons_succ, List.getElem_cons_zero]
  refine wpAnyH_take (i := 37) (v := ?_) rfl (by kernel_rfl) (by kernel_rfl) (by kernel_rfl) (fun _ _ _ h => h) (Or.inl ⟨by kernel_rfl, ?_⟩) hH2 ?_
  rotate_left
  · intro W hS
    go_simp
    try rfl
  simp only [Act.put, List.setIfInBounds_toArray, List.set_cons_zero, List.set_cons_succ, List.getElem_toArray, List.getElem_cons_succ, List.getElem_cons_zero]
  refine wpAnyH_take (i := 38) (v := ?_) rfl (by kernel_rfl) (by kernel_rfl) (by kernel_rfl) (fun _ _ _ h => h) (Or.inl ⟨by kernel_rfl, ?_⟩) hH2 ?_
  rotate_left
  · intro W hS
    go_simp
    try rfl
  simp only [Act.put, List.setIfInBounds_toArray, List.set_cons_zero, List.set_cons_succ, List.getElem_toArray, List.getElem_cons_succ, List.getElem_cons_zero]
  refine wpAnyH_take (i := 39) (v := ?_) rfl (by kernel_rfl) (by kernel_rfl) (by kernel_rfl) (fun _ _ _ h => h) (Or.inl ⟨by kernel_rfl, ?_⟩) hH2 ?_
  rotate_left
  · intro W hS
    go_simp
    try rfl
  simp only [Act.put, List.setIfInBounds_toArray, List.set_cons_zero, List.set_cons_succ, List.getElem_toArray, List.getElem_cons_succ, List.getElem_cons_zero]
  refine wpAnyH_take (i := 40) (v := ?_) rfl (by kernel_rfl) (by kernel_rfl) (by kernel_rfl) (fun _ _ _ h => h) (Or.inl ⟨by kernel_rfl, ?_⟩) hH2 ?_
  rotate_left
  · intro W hS
    go_simp
    try rfl
  simp only [Act.put, List.setIfInBounds_toArray, List.set_cons_zero, List.set_cons_succ, List.getElem_toArray, List.getElem_cons_succ, List.getElem_cons_zero]
  refine wpAnyH_take (i := 41) (v := ?_) rfl (by kernel_rfl) (by kernel_rfl) (by kernel_rfl) (fun _ _ _ h => h) (Or.inl ⟨by kernel_rfl, ?_⟩) hH2 ?_
  rotate_left
  · intro W hS
    go_simp
    try rfl
  simp only [Act.put, List.setIfInBounds_toArray, List.set_cons_zero, List.set_cons_succ, List.getElem_toArray, List.getElem_cons_succ, List.getElem_cons_zero]
  refine wpAnyH_take (i := 42) (v := stV (setr g j v)) rfl (by kernel_rfl) (by kernel_rfl) (by kernel_rfl) (fun _ _ _ h => h) (Or.inl ⟨by kernel_rfl, ?_⟩) hH2 ?_
  · intro W hS
    exact run_load_row (by rfl) (by rfl) 44 _ (0, 0) _ hS.2.2.2.1.h Try.underlying44 rfl szS
  simp only [Act.put, List.setIfInBounds_toArray, List.set_cons_zero, List.set_cons_succ]
  refine wpAnyH_take (i := 43) (v := stV (setr g j v)) rfl (by kernel_rfl) (by kernel_rfl) (by kernel_rfl) (fun _ _ _ h => h) (Or.inl ⟨by kernel_rfl, ?_⟩) hH2 ?_
  · intro W hS
    exact run_load_row (by rfl) (by rfl) 44 _ (0, 0) _ hS.2.2.2.2.h Try.underlying44 rfl szS
  simp only [Act.put, List.setIfInBounds_toArray, List.set_cons_zero, List.set_cons_succ]
  refine wpAnyH_take (i := 44) (v := .bool true) rfl (by kernel_rfl) (by kernel_rfl) (by kernel_rfl) (fun _ _ _ h => h) (Or.inl ⟨by kernel_rfl, ?_⟩) hH2 ?_
  · intro W hS
    exact run_eqS rfl (setr g j v) rfl rfl
  simp only [Act.put, List.setIfInBounds_toArray, List.set_cons_zero, List.set_cons_succ]
  refine wpAnyH_take (i := 45) (v := ?_) rfl (by kernel_rfl) (by kernel_rfl) (by kernel_rfl) (fun _ _ _ h => h) (Or.inl ⟨by kernel_rfl, ?_⟩) hH2 ?_
  rotate_left
  · intro W hS
    go_simp
    try rfl
  simp only [Act.put, List.setIfInBounds_toArray, List.set_cons_zero, List.set_cons_succ, List.getElem_toArray, List.getElem_cons_succ, List.getElem_cons_zero]
  refine wpAnyH_take (i := 46) (v := ?_) rfl (by kernel_rfl) (by kernel_rfl) (by kernel_rfl) (fun _ _ _ h => h) (Or.inl ⟨by kernel_rfl, ?_⟩) hH2 ?_
  rotate_left
  · intro W hS
    go_simp
    try rfl
  simp only [Act.put, List.setIfInBounds_toArray, List.set_cons_zero, List.set_cons_succ, List.getElem_toArray, List.getElem_cons_succ, List.getElem_cons_zero]
  refine wpAnyH_done (by kernel_rfl) ?_ _
  go_wp2_with fail
  go_ret
  have p12 := ((p9.below bc0).below bc1).below bc2
  exact ⟨rfl, HB2.out.trans (p12.done.mono HB.out)⟩
end Go.Proofs.Ytmlaancmacipoaa
