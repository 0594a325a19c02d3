import Derived.Test.YtcdoidnfdkodoaaGreatDoorS45
import Derived.Test.YtcdoidnfdkodoaaGreatDoorS42
import Derived.Test.YtcdoidnfdkodoaaGreatDoorS46
namespace Go.Proofs.YtcdoidnfdkodoaaGreatDoor
open Go.RowKit
set_option linter.unusedVariables false
set_option linter.unusedSimpArgs false
set_option linter.unusedSectionVars false
theorem reg13 (r : Int) (w : World) : Calls Tryz.prog 35 #[.int .i64 r] w fun e w' => e = .returned (opV ⟨1, r, 0, 0, 0, 0⟩) ∧ Below w.heap.size w w' := by
  have kx := (Below.refl w.heap.size w).alloc (Nat.le_refl _) (.cells (op6 ⟨1, r, 0, 0, 0, 0⟩) 31)
  go_enter Tryz.func35, Tryz.ntmps35
  go_wp2
  exact bodyPost_ret (v := opV ⟨1, r, 0, 0, 0, 0⟩) (by simp [results, Tryz.results35, go_sem]) rfl ⟨rfl, kx⟩
theorem imm13 (v : Int) (w : World) : Calls Tryz.prog 34 #[.int .u32 v] w fun e w' => e = .returned (opV ⟨2, 0, v, 0, 0, 0⟩) ∧ Below w.heap.size w w' := by
  have kx := (Below.refl w.heap.size w).alloc (Nat.le_refl _) (.cells (op6 ⟨2, 0, v, 0, 0, 0⟩) 31)
  go_enter Tryz.func34, Tryz.ntmps34
  go_wp2
  exact bodyPost_ret (v := opV ⟨2, 0, v, 0, 0, 0⟩) (by simp [results, Tryz.results34, go_sem]) rfl ⟨rfl, kx⟩
theorem mem13 (v : Int) (w : World) : Calls Tryz.prog 33 #[.int .u32 v] w fun e w' => e = .returned (opV ⟨3, 0, v, -1, -1, 1⟩) ∧ Below w.heap.size w w' := by
  have kx := (Below.refl w.heap.size w).alloc (Nat.le_refl _) (.cells (op6 ⟨3, 0, v, -1, -1, 1⟩) 31)
  go_enter Tryz.func33, Tryz.ntmps33
  go_wp2
  exact bodyPost_ret (v := opV ⟨3, 0, v, -1, -1, 1⟩) (by simp [results, Tryz.results33, go_sem]) rfl ⟨rfl, kx⟩
theorem setr_ok13 {g : Gs} (h : g.ok) (j : Nat) {v : Int} (hv : 0 ≤ v ∧ v ≤ 4294967295) : (setr g j v).ok := by
  refine ⟨fun k => ?_, h.pc, h.x⟩
  show 0 ≤ (if k = j then v else g.r k) ∧ (if k = j then v else g.r k) ≤ 4294967295
  split
  · exact hv
  · exact h.r k
theorem setr2 (g : Gs) (v : Int) : (stA g).setIfInBounds 2 (.int .u32 v) = stA (setr g 2 v) := by kernel_rfl
def DoR (m : Mm) (g : Gs) (i : In) (g' : Gs) (m' : Mm) : Prop := ∀ (W : World) (B : Nat), PAt W B m → Tb W → Calls Tryz.prog 19 #[mp B, stV g, inV i] W fun e w' => e = .returned (.tuple #[stV g', fltV 0 0 0 0, .bool true]) ∧ PAt w' B m' ∧ But [B] W.heap.size W w'
def DoF (m : Mm) (g : Gs) (i : In) (k pc a wt : Int) : Prop := ∀ (W : World) (B : Nat), PAt W B m → Tb W → Calls Tryz.prog 19 #[mp B, stV g, inV i] W fun e w' => e = .returned (.tuple #[stV g, fltV k pc a wt, .bool false]) ∧ PAt w' B m ∧ But [B] W.heap.size W w'
section
variable {w W : World} {S B : Nat} {m m' : Mm} {g g' : Gs} {i : In}
theorem DoR.pg (h : DoR m g i g' m') (T0 : Tb w) (hS : w.heap.size = S) (ok : m'.ok) (p : Pg S w W B m) :
    Calls Tryz.prog 19 #[mp B, stV g, inV i] W fun e w' => e = .returned (.tuple #[stV g', fltV 0 0 0 0, .bool true]) ∧ Pg S w w' B m' ∧ But [B] W.heap.size W w' :=
  (h W B p.h (T0.below (hS ▸ p.done))).mono fun e w' h => ⟨h.1, p.step h.2.1 ok h.2.2, h.2.2⟩
theorem DoF.pg {k pc a wt : Int} (h : DoF m g i k pc a wt) (T0 : Tb w) (hS : w.heap.size = S) (p : Pg S w W B m) :
    Calls Tryz.prog 19 #[mp B, stV g, inV i] W fun e w' => e = .returned (.tuple #[stV g, fltV k pc a wt, .bool false]) ∧ Pg S w w' B m ∧ But [B] W.heap.size W w' :=
  (h W B p.h (T0.below (hS ▸ p.done))).mono fun e w' h => ⟨h.1, p.step h.2.1 p.ok h.2.2, h.2.2⟩
theorem gok13 (S : Nat) (w : World) (B : Nat) (m m' : Mm) : GOk (fun k W => Pg S w W B (bif k then m' else m)) B :=
  ⟨fun _ _ _ h b => h.below b, fun _ _ _ _ h hl hb => h.store hb hl, fun _ _ h => h.h.lt⟩
theorem Pg.drew (p : Pg S w W B m) : Pg S w W.drew B m := p.below (Below.refl W.heap.size W).drew
theorem Blk.rangeR {N : Nat} (k : Blk W N 29 (stA g)) : W.rangeAt N 0 [.int .u32 (g.r 0), .int .u32 (g.r 1), .int .u32 (g.r 2), .int .u32 (g.r 3), .int .u32 (g.r 4), .int .u32 (g.r 5), .int .u32 (g.r 6), .int .u32 (g.r 7)] := by
  intro j v hv
  have hj : j < 8 := by have := (List.getElem?_eq_some_iff.1 hv).1; simpa using this
  rcases (by omega : j = 0 ∨ j = 1 ∨ j = 2 ∨ j = 3 ∨ j = 4 ∨ j = 5 ∨ j = 6 ∨ j = 7) with rfl | rfl | rfl | rfl | rfl | rfl | rfl | rfl <;> (cases hv; exact k.cell rfl)
theorem Blk.rangeF {N : Nat} (k : Blk W N 29 (stA g)) : W.rangeAt N 9 [.bool (g.f 0), .bool (g.f 1), .bool (g.f 2), .bool (g.f 3), .bool (g.f 4), .bool (g.f 5)] := by
  intro j v hv
  have hj : j < 6 := by have := (List.getElem?_eq_some_iff.1 hv).1; simpa using this
  rcases (by omega : j = 0 ∨ j = 1 ∨ j = 2 ∨ j = 3 ∨ j = 4 ∨ j = 5) with rfl | rfl | rfl | rfl | rfl | rfl <;> (cases hv; exact k.cell rfl)
end
abbrev cells8 (a : Nat → Int) : Array Value := #[.int .u32 (a 0), .int .u32 (a 1), .int .u32 (a 2), .int .u32 (a 3), .int .u32 (a 4), .int .u32 (a 5), .int .u32 (a 6), .int .u32 (a 7)]
theorem items8 (n : Nat) (a : Nat → Int) (W : World) : ∀ is : List Nat, (∀ i ∈ is, i < 8) → (Op.eqItems (n + 2) 23 1 (cells8 a) (cells8 a) is).run Tryz.prog W = .ok true W
  | [], _ => by simp [Op.eqItems]
  | i :: is, h => by
    have hi := h i (by simp)
    have ha : (cells8 a)[i * 1]? = some (.int .u32 (a i)) := by
      rcases (by omega : i = 0 ∨ i = 1 ∨ i = 2 ∨ i = 3 ∨ i = 4 ∨ i = 5 ∨ i = 6 ∨ i = 7) with rfl | rfl | rfl | rfl | rfl | rfl | rfl | rfl <;> rfl
    have hp := run_part_plain (P := Tryz.prog) W (e := 23) (by kernel_rfl) ha
    have ih := items8 n a W is (fun j hj => h j (by simp [hj]))
    simp only [Op.eqItems, Sem.run_bind, hp, Result.andThen_ok, run_equalIn_int W (n + 1) 23 .u32 .u32 (a i) (a i) Tryz.underlying23]
    simpa using ih
theorem eq8 (n : Nat) (a : Nat → Int) (W : World) : (Op.equalIn (n + 3) 24 (.agg (cells8 a)) (.agg (cells8 a))).run Tryz.prog W = .ok true W := by
  have hsome : (Tryz.prog.info? 23).isSome = true := by kernel_rfl
  obtain ⟨i, hi⟩ := Option.isSome_iff_exists.1 hsome
  rw [run_equalIn_array W (n + 2) _ _ Tryz.underlying24 hi, show Tryz.prog.cellsOf 23 = 1 by kernel_rfl]
  exact items8 n a W _ (fun i hi => by simpa using hi)
theorem run_eqS {ev : Operand → Value} {o : Oper} {w : World} {x y : Operand} (ho : o.op = .binOp .eql 29 x y 29) (g : Gs) (hx : ev x = stV g) (hy : ev y = stV g) : (execOp ev o).run Tryz.prog w = .ok (.value (.bool true)) w := by
  have heq := eq8 9996 g.r w
  unfold execOp
  simp only [ho, hx, hy]
  go_simp
theorem run_eqR {ev : Operand → Value} {o : Oper} {w : World} {x y : Operand} (ho : o.op = .binOp .eql 24 x y 24) (r : Nat → Int) (hx : ev x = .agg (cells8 r)) (hy : ev y = .agg (cells8 r)) : (execOp ev o).run Tryz.prog w = .ok (.value (.bool true)) w := by
  have heq := eq8 9997 r w
  unfold execOp
  simp only [ho, hx, hy]
  go_simp
end Go.Proofs.YtcdoidnfdkodoaaGreatDoor
