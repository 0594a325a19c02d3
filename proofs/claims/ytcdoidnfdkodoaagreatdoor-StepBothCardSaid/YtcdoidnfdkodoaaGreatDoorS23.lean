import Derived.Test.YtcdoidnfdkodoaaGreatDoorS17
import Derived.Test.YtcdoidnfdkodoaaGreatDoorS20
import Derived.Deep.CutRange
namespace Go.Proofs.YtcdoidnfdkodoaaGreatDoor
open Go.RowKit
set_option linter.unusedVariables false
set_option linter.unusedSimpArgs false
set_option linter.unusedSectionVars false
theorem load_opR {ops : Array Oper} {rest : List Oper} {o : Oper} {a : Act} {w : World} {Q : Exit → Act → World → Prop} (hgd : o.guard = none) (x : Operand) (ho : o.op = .load 31 x)
    (K : Nat) (cs : Array Value) (hx : a.eval x = .pointer (some ⟨K, 0, none⟩)) (k : Blk w K 31 cs) (hz : cs.size = 6)
    (h : wpList Tryz.prog ops Q rest (a.put o.dst (.agg cs)) w) : wpList Tryz.prog ops Q (o :: rest) a w :=
  wpList_load_row hgd 31 x ho K hx 31 cs (0, 0) _ k.h Tryz.underlying31 rfl ((szOp onZ).trans (congrArg some hz.symm)) h
theorem store_opR {ops : Array Oper} {rest : List Oper} {o : Oper} {a : Act} {w : World} {Q : Exit → Act → World → Prop} (hgd : o.guard = none) (x y : Operand) (ho : o.op = .store 31 x y)
    (K : Nat) (cs old : Array Value) (hx : a.eval x = .pointer (some ⟨K, 0, none⟩)) (hy : a.eval y = .agg cs) (k : Blk w K 31 old) (hz : cs.size = 6) (hz2 : old.size = 6) (h1 : cs.all (·.oneCell') = true)
    (h : ∀ W, Blk W K 31 cs → But [K] w.heap.size w W → W.heap.size = w.heap.size → wpList Tryz.prog ops Q rest (a.put o.dst undef) W) :
    wpList Tryz.prog ops Q (o :: rest) a w := by
  refine wpList_store_row hgd 31 x y ho K cs hx hy 31 old k.h ((szOp onZ).trans (congrArg some hz.symm)) (hz2.trans hz.symm) h1 ?_
  exact h _ (k.row cs) ((But.refl _ _ _).setRow (by simp) cs) (by simp [World.setRow])
theorem load_inR {ops : Array Oper} {rest : List Oper} {o : Oper} {a : Act} {w : World} {Q : Exit → Act → World → Prop} (hgd : o.guard = none) (x : Operand) (ho : o.op = .load 33 x)
    (K : Nat) (cs : Array Value) (hx : a.eval x = .pointer (some ⟨K, 0, none⟩)) (k : Blk w K 33 cs) (hz : cs.size = 16)
    (h : wpList Tryz.prog ops Q rest (a.put o.dst (.agg cs)) w) : wpList Tryz.prog ops Q (o :: rest) a w :=
  wpList_load_row hgd 33 x ho K hx 33 cs (0, 0) _ k.h Tryz.underlying33 rfl ((szIn ⟨0, 0, onZ, onZ, false, 0⟩).trans (congrArg some hz.symm)) h
theorem store_inR {ops : Array Oper} {rest : List Oper} {o : Oper} {a : Act} {w : World} {Q : Exit → Act → World → Prop} (hgd : o.guard = none) (x y : Operand) (ho : o.op = .store 33 x y)
    (K : Nat) (cs old : Array Value) (hx : a.eval x = .pointer (some ⟨K, 0, none⟩)) (hy : a.eval y = .agg cs) (k : Blk w K 33 old) (hz : cs.size = 16) (hz2 : old.size = 16) (h1 : cs.all (·.oneCell') = true)
    (h : ∀ W, Blk W K 33 cs → But [K] w.heap.size w W → W.heap.size = w.heap.size → wpList Tryz.prog ops Q rest (a.put o.dst undef) W) :
    wpList Tryz.prog ops Q (o :: rest) a w := by
  refine wpList_store_row hgd 33 x y ho K cs hx hy 33 old k.h ((szIn ⟨0, 0, onZ, onZ, false, 0⟩).trans (congrArg some hz.symm)) (hz2.trans hz.symm) h1 ?_
  exact h _ (k.row cs) ((But.refl _ _ _).setRow (by simp) cs) (by simp [World.setRow])
theorem z6_size : z6.size = 6 := rfl
theorem z16_size : z16.size = 16 := rfl
theorem op6_size (o : On) : (op6 o).size = 6 := rfl
theorem op6_one (o : On) : (op6 o).all (·.oneCell') = true := by simp [Value.oneCell']
theorem in16_size (i : In) : (in16 i).size = 16 := rfl
theorem in16_one (i : In) : (in16 i).all (·.oneCell') = true := by simp [Value.oneCell']
theorem Blk.setB {W : World} {K : Nat} {t : TypeId} {o : On} (k : Blk W K t (op6 o)) (v : Int) : Blk (W.setCell ⟨K, 3, none⟩ (.int .i64 v)) K t (op6 { o with b := v }) := k.set 3 (.int .i64 v)
theorem Blk.setX {W : World} {K : Nat} {t : TypeId} {o : On} (k : Blk W K t (op6 o)) (v : Int) : Blk (W.setCell ⟨K, 4, none⟩ (.int .i64 v)) K t (op6 { o with x := v }) := k.set 4 (.int .i64 v)
theorem Blk.setS {W : World} {K : Nat} {t : TypeId} {o : On} (k : Blk W K t (op6 o)) (v : Int) : Blk (W.setCell ⟨K, 5, none⟩ (.int .u32 v)) K t (op6 { o with s := v }) := k.set 5 (.int .u32 v)
theorem Blk.setM {W : World} {K : Nat} {t : TypeId} {o : On} (k : Blk W K t (op6 o)) (v : Int) : Blk (W.setCell ⟨K, 2, none⟩ (.int .u32 v)) K t (op6 { o with m := v }) := k.set 2 (.int .u32 v)
theorem But.cell1 (W : World) (K i : Nat) (v : Value) : But [K] W.heap.size W (W.setCell ⟨K, i, none⟩ v) := (But.refl _ _ _).setCell (by simp) _
structure PF (w W : World) (N B : Nat) (a : Option Addr) (len cap : Nat) (zs : List Int) (p : Nat) (c m : Int) (t : TypeId) (cs : Array Value) : Prop where
  r : Rd W N B a len cap zs p c m
  k : But [B] w.heap.size w W
  z : Blk W w.heap.size t cs
  hB : B < w.heap.size
section
variable {w W W' : World} {N B : Nat} {a : Option Addr} {len cap : Nat} {zs : List Int} {p : Nat} {c m : Int} {t : TypeId} {cs : Array Value}
theorem PF.start (R : Rd w N B a len cap zs p c m) (t : TypeId) (cs : Array Value) : PF w (w.alloc (.cells cs t)) N B a len cap zs p c m t cs :=
  ⟨R.alloc _, (But.refl _ _ _).alloc (Nat.le_refl _) _, Blk.new _ _ _, R.lt⟩
theorem PF.drew (h : PF w W N B a len cap zs p c m t cs) : PF w W.drew N B a len cap zs p c m t cs := ⟨h.r.drew, h.k.drew, h.z.drew, h.hB⟩
theorem PF.lt (h : PF w W N B a len cap zs p c m t cs) : w.heap.size < W.heap.size := h.z.lt
theorem PF.cell (h : PF w W N B a len cap zs p c m t cs) {K : Nat} (hK : w.heap.size < K) (i : Nat) (v : Value) : PF w (W.setCell ⟨K, i, none⟩ v) N B a len cap zs p c m t cs :=
  ⟨h.r.other (by have := h.hB; have := h.r.nb; omega) (by have := h.hB; omega), h.k.trans ((But.cell1 W K i v).mono h.k.size (by simp; omega)), h.z.other i v (by omega), h.hB⟩
theorem PF.read (h : PF w W N B a len cap zs p c m t cs) {q : Nat} {d e : Int} (R : Rd W' N B a len cap zs q d e) (k : But [B] W.heap.size W W') : PF w W' N B a len cap zs q d e t cs :=
  ⟨R, h.k.trans (k.mono h.k.size (fun _ h => .inl h)), h.z.but k h.lt (by have := h.hB; simp; omega), h.hB⟩
theorem PF.but (h : PF w W N B a len cap zs p c m t cs) {S : List Nat} (k : But S W.heap.size W W') (hS : ∀ x, x ∈ S → w.heap.size < x) : PF w W' N B a len cap zs p c m t cs :=
  ⟨h.r.but k h.r.lt (fun hm => by have := hS _ hm; have := h.hB; omega) (fun x hx => by have := hS _ hx; have := h.hB; have := h.r.nb; omega), h.k.trans (k.mono h.k.size (fun x hx => .inr (by have := hS _ hx; omega))), h.z.but k h.lt (fun hm => by have := hS _ hm; omega), h.hB⟩
theorem PF.below (h : PF w W N B a len cap zs p c m t cs) (k : Below W.heap.size W W') : PF w W' N B a len cap zs p c m t cs := h.but (But.of k []) (by simp)
theorem PF.done (h : PF w W N B a len cap zs p c m t cs) {cs' : Array Value} (z : Blk W' w.heap.size t cs') (k : But [w.heap.size] W.heap.size W W') : PF w W' N B a len cap zs p c m t cs' :=
  ⟨h.r.but k h.r.lt (by have := h.hB; simp; omega) (by have := h.hB; have := h.r.nb; simp; omega), h.k.trans (k.mono h.k.size (by simp)), z, h.hB⟩
end
section
variable {w : World} {N B : Nat} {a : Option Addr} {len cap : Nat} {zs : List Int} {p : Nat} {c m : Int}
set_option maxRecDepth 8000 in
theorem place_reg (R : Rd w N B a len cap zs p c m) (h : m / 64 % 4 = 3) :
    Calls Tryz.prog 270 #[rp B] w fun e w' => e = .returned (opV (onReg (m % 8))) ∧ Rd w' N B a len cap zs p c m ∧ But [B] w.heap.size w w' := by
  have hH := fun w => highest_any m R.mb w
  have hL := fun w => lowest3_any m R.mb w
  have F := PF.start R 31 z6
  have hB := R.lt
  have hR := fun w => register_anyD (m % 8) w
  generalize m % 8 = rm at *
  generalize m / 64 % 4 = how at *
  subst h
  go_enter Tryz.func270, Tryz.ntmps270
  go_wp2_with fail
  generalize w.alloc (.cells z6 31) = w1 at *
  refine wp_region_held_drew (S := fun W => PF w W N B a len cap zs p c m 31 z6) (by kernel_rfl) F.drew (fun hHeld => ?_)
  refine wpAnyH_take (i := 0) (v := ?_) rfl (by kernel_rfl) (by kernel_rfl) (by kernel_rfl) (fun _ _ _ h => h) (Or.inl ⟨by kernel_rfl, ?_⟩) hHeld ?_
  rotate_left
  · intro W hS
    go_simp
    try rfl
  simp only [Act.put, List.setIfInBounds_toArray, List.set_cons_zero, List.set_cons_succ, List.getElem_toArray, List.getElem_cons_succ, List.getElem_cons_zero]
  refine wpAnyH_take (i := 1) (v := ?_) rfl (by kernel_rfl) (by kernel_rfl) (by kernel_rfl) (fun _ _ _ h => h) (Or.inl ⟨by kernel_rfl, ?_⟩) hHeld ?_
  rotate_left
  · intro W hS
    go_simp
    try rfl
  simp only [Act.put, List.setIfInBounds_toArray, List.set_cons_zero, List.set_cons_succ, List.getElem_toArray, List.getElem_cons_succ, List.getElem_cons_zero]
  refine wpAnyH_take (i := 2) (v := ?_) rfl (by kernel_rfl) (by kernel_rfl) (by kernel_rfl) (fun _ _ _ h => h) (Or.inl ⟨by kernel_rfl, ?_⟩) hHeld ?_
  rotate_left
  · intro W hS
    go_simp
    try rfl
  simp only [Act.put, List.setIfInBounds_toArray, List.set_cons_zero, List.set_cons_succ, List.getElem_toArray, List.getElem_cons_succ, List.getElem_cons_zero]
  refine wpAnyH_take (i := 3) (v := ?_) rfl (by kernel_rfl) (by kernel_rfl) (by kernel_rfl) (fun _ _ _ h => h) (Or.inl ⟨by kernel_rfl, ?_⟩) hHeld ?_
  rotate_left
  · intro W hS
    have c3 := hS.r.c3
    go_simp
    try rfl
  simp only [Act.put, List.setIfInBounds_toArray, List.set_cons_zero, List.set_cons_succ, List.getElem_toArray, List.getElem_cons_succ, List.getElem_cons_zero]
  refine wpAnyH_take (i := 5) (v := ?_) rfl (by kernel_rfl) (by kernel_rfl) (by kernel_rfl) (fun _ _ _ h => h) (Or.inl ⟨by kernel_rfl, ?_⟩) hHeld ?_
  rotate_left
  · intro W hS
    go_simp
    try rfl
  simp only [Act.put, List.setIfInBounds_toArray, List.set_cons_zero, List.set_cons_succ, List.getElem_toArray, List.getElem_cons_succ, List.getElem_cons_zero]
  refine wpAnyH_take (i := 6) (v := ?_) rfl (by kernel_rfl) (by kernel_rfl) (by kernel_rfl) (fun _ _ _ h => h) (Or.inl ⟨by kernel_rfl, ?_⟩) hHeld ?_
  rotate_left
  · intro W hS
    go_simp
    try rfl
  simp only [Act.put, List.setIfInBounds_toArray, List.set_cons_zero, List.set_cons_succ, List.getElem_toArray, List.getElem_cons_succ, List.getElem_cons_zero]
  refine wpAnyH_take (i := 7) (v := ?_) rfl (by kernel_rfl) (by kernel_rfl) (by kernel_rfl) (fun _ _ _ h => h) (Or.inl ⟨by kernel_rfl, ?_⟩) hHeld ?_
  rotate_left
  · intro W hS
    go_simp
    try rfl
  simp only [Act.put, List.setIfInBounds_toArray, List.set_cons_zero, List.set_cons_succ, List.getElem_toArray, List.getElem_cons_succ, List.getElem_cons_zero]
  refine wpAnyH_take (i := 8) (v := ?_) rfl (by kernel_rfl) (by kernel_rfl) (by kernel_rfl) (fun _ _ _ h => h) (Or.inl ⟨by kernel_rfl, ?_⟩) hHeld ?_
  rotate_left
  · intro W hS
    have c3 := hS.r.c3
    go_simp
    try rfl
  simp only [Act.put, List.setIfInBounds_toArray, List.set_cons_zero, List.set_cons_succ, List.getElem_toArray, List.getElem_cons_succ, List.getElem_cons_zero]
  refine wpAnyH_ready (rs := [4]) (by kernel_rfl) (by simp) ?_
  refine AllReadyH.cons rfl (fun K hK => ?_) AllReadyH.nil
  go_simp
  with_reducible refine (hH _).mono ?_
  rintro e w2 ⟨rfl, rfl⟩
  refine hK.out _ _ hHeld (fun _ => ?_)
  clear hK K
  try simp only [Act.put, List.setIfInBounds_toArray, List.set_cons_zero, List.set_cons_succ]
  refine wpAnyH_ready (rs := [9]) (by kernel_rfl) (by simp) ?_
  refine AllReadyH.cons rfl (fun K hK => ?_) AllReadyH.nil
  go_simp
  with_reducible refine (hL _).mono ?_
  rintro e w2 ⟨rfl, rfl⟩
  refine hK.out _ _ hHeld (fun _ => ?_)
  clear hK K
  try simp only [Act.put, List.setIfInBounds_toArray, List.set_cons_zero, List.set_cons_succ]
  refine wpAnyH_take (i := 10) (v := ?_) rfl (by kernel_rfl) (by kernel_rfl) (by kernel_rfl) (fun _ _ _ h => h) (Or.inl ⟨by kernel_rfl, ?_⟩) hHeld ?_
  rotate_left
  · intro W hS
    go_simp
    try rfl
  simp only [Act.put, List.setIfInBounds_toArray, List.set_cons_zero, List.set_cons_succ, List.getElem_toArray, List.getElem_cons_succ, List.getElem_cons_zero]
  refine wpAnyH_take (i := 11) (v := ?_) rfl (by kernel_rfl) (by kernel_rfl) (by kernel_rfl) (fun _ _ _ h => h) (Or.inl ⟨by kernel_rfl, ?_⟩) hHeld ?_
  rotate_left
  · intro W hS
    go_simp
    try rfl
  simp only [Act.put, List.setIfInBounds_toArray, List.set_cons_zero, List.set_cons_succ, List.getElem_toArray, List.getElem_cons_succ, List.getElem_cons_zero]
  refine wpAnyH_done (by kernel_rfl) ?_ _
  generalize w1.drew = w2 at *
  go_wp2_with (first | ((with_reducible refine (hR _).mono ?_); rintro e w3 ⟨rfl, k3⟩; have F1 := hHeld.below k3) | ((with_reducible refine store_opR rfl _ _ rfl w.heap.size (op6 (onReg rm)) z6 rfl rfl F1.z (op6_size _) z6_size (op6_one _) ?_); intro W4 z4 k4 s4; have F2 := F1.done z4 k4))
  exact bodyPost_ret (v := opV (onReg rm)) (results_cell_row rfl _ _ w.heap.size 31 _ (0, 0) _ rfl F2.z.h Tryz.underlying31 rfl (szOp onZ)) rfl ⟨rfl, F2.r, F2.k⟩
end
end Go.Proofs.YtcdoidnfdkodoaaGreatDoor
