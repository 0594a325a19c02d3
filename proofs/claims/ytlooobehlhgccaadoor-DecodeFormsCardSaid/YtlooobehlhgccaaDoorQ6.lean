/- 'append' to a full list: a new one. MOV by each form of r/m. -/
import Derived.Test.YtlooobehlhgccaaDoorQ4
namespace Go.Proofs.YtlooobehlhgccaaDoor
open Go.RowKit
set_option linter.unusedVariables false
set_option linter.unusedSimpArgs false
set_option linter.unusedSectionVars false

theorem ba_cells {w : World} {b : Nat} {off m c : Nat} {ys : List Int} (B : Ba w (some ⟨b, off, none⟩) m c ys) : ∀ j u, (ys.map (Value.int .u8))[j]? = some u → w.cell? ((⟨b, off, none⟩ : Addr).add j) = some u := by
  intro j u hj
  obtain ⟨hl, -, hr⟩ := B.row
  have hj2 : j < ys.length := by
    have := (List.getElem?_eq_some_iff.1 hj).1
    simpa using this
  rcases hr with rfl | ⟨g, off', e, -, hc⟩
  · simp at hj2
  · obtain ⟨rfl, rfl⟩ : b = g ∧ off = off' := by simpa using e
    have e : (⟨b, off, none⟩ : Addr).add j = ⟨b, off + j, none⟩ := by unfold Addr.add; split <;> simp_all
    rw [e, hc j (by omega), ← hj]
    simp [List.getD_eq_getElem?_getD, hj2]
/-- 'append' to a list without room: a new one, all else as it was. -/
theorem append_full {ops : Array Oper} {rest : List Oper} {o : Oper} {a : Act} {w : World} {Q : Exit → Act → World → Prop} (hgd : o.guard = none) (s x : Operand)
    (ho : o.op = .call { callee := .builtin .append, args := #[s, x], argTypes := #[22, 22] })
    (b off n : Nat) (xs ys : List Int) (hs : a.eval s = .slice (some ⟨b, off, none⟩) n n) (A : Ba w (some ⟨b, off, none⟩) n n xs)
    (b2 off2 m c : Nat) (hx : a.eval x = .slice (some ⟨b2, off2, none⟩) m c) (B : Ba w (some ⟨b2, off2, none⟩) m c ys) (hm : 0 < m) (hl : n + m ≤ 100)
    (k : ∀ v' w', Own w' w.heap.size v' (xs ++ ys) → Below w.heap.size w w' → wpList Tryd.prog ops Q rest (a.put o.dst v') w') : wpList Tryd.prog ops Q (o :: rest) a w := by
  obtain ⟨i, hi, hz, hsz, hby⟩ := info_u8
  have lx : xs.length = n := A.row.1
  have ly : ys.length = m := B.row.1
  have hr := run_append_grow (P := Tryd.prog) w 22 o.type 5 i (.int .u8 0) Tryd.underlying22 hi hz ⟨b, off, none⟩ n n (xs.map (Value.int .u8)) (by simp [hsz, lx]) (ba_cells A) ⟨b2, off2, none⟩ m c (ys.map (Value.int .u8)) (by simp [hsz, ly]) (ba_cells B) (by omega) (by omega)
    (growslice_fits (by omega) (by rw [hby]; omega))
  have hge := grownCap_ge w (n + m) n 5
  have hcm := grownCap_le_maxLen w (n + m) n 5 (by simp only [maxLen]; omega)
  refine wpList_plain hgd fun K hK => ?_
  unfold Oper.wp execOp
  simp only [ho, resolve, invoke, builtin, Sem.run_bind, Sem.run_pure, Result.andThen_ok, List.map_toArray, List.map_cons, List.map_nil, hs, hx, hr]
  refine hK _ _ (k _ _ ⟨fun z hz => ?_, by simp, .inr ⟨w.heap.size, _, _, ?_, Nat.le_refl _, heap_alloc_new w.drew _, ?_, hcm, ?_, ?_⟩⟩ (Below.alloc (⟨rfl, rfl, rfl, Nat.le_refl _, fun _ _ => rfl⟩ : Below w.heap.size w w.drew) (Nat.le_refl _) _))
  · rcases List.mem_append.1 hz with h | h
    · exact A.row.2.1 z h
    · exact B.row.2.1 z h
  · rw [List.length_append, lx, ly]
  · rw [List.length_append, lx, ly]; exact hge
  · simp only [Array.size_append, List.size_toArray, List.length_map, size_zeroCells, lx, ly]
    simp [Value.cells]
    omega
  · simp only [Array.toList_append, List.append_assoc]
    rw [← List.append_assoc, show (xs ++ ys).length * 1 = (List.map (Value.int .u8) xs ++ List.map (Value.int .u8) ys).length by simp, List.map_append]
    exact List.take_left
theorem rows_8b : rowsOf 139 = [⟨65535, 139, 1, 5, 6⟩] := by kernel_rfl
theorem dec_8b {zs : List Int} {p : Nat} (h : openM zs = some (139, p)) (hp2 : p ≤ 2) (hp : p + 1 ≤ zs.length) {o : On} {q : Nat} (ho : placeM zs (p + 1) (zs.getD p 0) = some (o, q)) :
    decM zs = .ok ⟨1, 0, onReg (zs.getD p 0 / 8 % 8), o, false, q⟩ := by
  have hR := placeM_RM ho
  rw [dec_mod h rows_8b (.inr rfl) hp, rest_okp (op := 1) (by decide) (by decide) rfl (by decide) (by decide) (oper5 _ _ _ _) ((oper6 _ _ _ _).trans ho)]
  dsimp only
  exact isOr_ok (isB_sets (SA := [2, 6]) (SB := [2, 6, 8]) (by kernel_rfl) (mem_reg (by omega)) (mem_RM hR.1) rfl rfl (by omega))
/-- MOV EBX, r/m. -/
theorem dec_mov {M : Int} {t : List Int} (hM : M / 8 % 8 = 3) {o : On} {q : Nat} (ho : placeM (139 :: M :: t) 2 M = some (o, q)) : decM (139 :: M :: t) = .ok ⟨1, 0, onReg 3, o, false, q⟩ := by
  have := dec_8b (zs := 139 :: M :: t) (p := 1) (open_one (by decide)) (by decide) (by simp) ho
  rw [show (139 :: M :: t : List Int).getD 1 0 / 8 % 8 = 3 from hM] at this
  exact this
section
variable (k d : Int) (hk : 0 ≤ k ∧ k < 8) (hd : 0 ≤ d ∧ d ≤ 4294967295)
include hk
theorem form_reg : decM [139, 216 + k] = .ok ⟨1, 0, onReg 3, onReg k, false, 2⟩ :=
  dec_mov (by omega) (by unfold placeM; rw [if_pos (by omega), show (216 + k) % 8 = k by omega])
theorem form_near (h4 : ¬ k = 4) (z : Int) : decM [139, 88 + k, z] = .ok ⟨1, 0, onReg 3, onMem (sx z) k (-1) 1, false, 3⟩ :=
  dec_mov (by omega) (by
    unfold placeM distM
    rw [if_neg (by omega), if_neg (by omega), if_pos (show (88 + k) / 64 % 4 = 1 by omega), if_pos (by simp), show (88 + k) % 8 = k by omega]
    rfl)
include hd in
theorem form_far (h4 : ¬ k = 4) : decM (139 :: (152 + k) :: wB d) = .ok ⟨1, 0, onReg 3, onMem d k (-1) 1, false, 6⟩ :=
  dec_mov (by omega) (by
    unfold placeM distM
    rw [if_neg (by omega), if_neg (by omega), if_neg (by omega), if_pos (show (152 + k) / 64 % 4 = 2 by omega), if_pos (by simp [wB]), show (152 + k) % 8 = k by omega, le4_w2 _ _ _ hd])
omit hk in
include hd in
theorem form_abs : decM (139 :: 29 :: wB d) = .ok ⟨1, 0, onReg 3, onMem d (-1) (-1) 1, false, 6⟩ :=
  dec_mov (by omega) (by
    unfold placeM distM
    rw [if_neg (by omega), if_neg (by omega), if_neg (by omega), if_neg (by omega), if_pos (by omega), if_pos (by simp [wB]), le4_w2 _ _ _ hd])
theorem form_here (h4 : ¬ k = 4) (h5 : ¬ k = 5) : decM [139, 24 + k] = .ok ⟨1, 0, onReg 3, onMem 0 k (-1) 1, false, 2⟩ :=
  dec_mov (by omega) (by
    unfold placeM distM
    rw [if_neg (by omega), if_neg (by omega), if_neg (by omega), if_neg (by omega), if_neg (by omega), show (24 + k) % 8 = k by omega])
end
section
variable (s d : Int) (hd : 0 ≤ d ∧ d ≤ 4294967295)
/-- Index and scale by SIB. -/
def ixM (s : Int) : Int := if s / 8 % 8 = 4 then -1 else s / 8 % 8
def scM (s : Int) : Int := if s / 8 % 8 = 4 then 1 else 2 ^ (s / 64 % 4).toNat
theorem sib_place {zs : List Int} {p : Nat} {m : Int} (h3 : ¬ m / 64 % 4 = 3) (h4 : m % 8 = 4) (hp : p + 1 ≤ zs.length) : placeM zs p m = distM zs (p + 1) (m / 64 % 4) (zs.getD p 0 % 8) (ixM (zs.getD p 0)) (scM (zs.getD p 0)) := by
  unfold placeM ixM scM
  rw [if_neg h3, if_pos h4, if_pos hp]
  by_cases h : zs.getD p 0 / 8 % 8 = 4
  · rw [if_pos h, if_pos h, if_pos h]
  · rw [if_neg h, if_neg h, if_neg h]
theorem sib_near (z : Int) : decM [139, 92, s, z] = .ok ⟨1, 0, onReg 3, onMem (sx z) (s % 8) (ixM s) (scM s), false, 4⟩ :=
  dec_mov (by omega) (by
    rw [sib_place (by omega) (by omega) (by simp)]
    unfold distM
    rw [if_pos (by omega), if_pos (by simp)]
    rfl)
include hd
theorem sib_far : decM (139 :: 156 :: s :: wB d) = .ok ⟨1, 0, onReg 3, onMem d (s % 8) (ixM s) (scM s), false, 7⟩ :=
  dec_mov (by omega) (by
    rw [sib_place (by omega) (by omega) (by simp)]
    unfold distM
    rw [if_neg (by omega), if_pos (by omega), if_pos (by simp [wB])]
    have := le4_wB [139, 156, s] [] d hd
    rw [List.append_nil] at this
    rw [show le4 (139 :: 156 :: s :: wB d) (2 + 1) = d from this]
    rfl)
theorem sib_abs (h5 : s % 8 = 5) : decM (139 :: 28 :: s :: wB d) = .ok ⟨1, 0, onReg 3, onMem d (-1) (ixM s) (scM s), false, 7⟩ :=
  dec_mov (by omega) (by
    rw [sib_place (by omega) (by omega) (by simp)]
    unfold distM
    rw [if_neg (by omega), if_neg (by omega), if_pos (show (139 :: 28 :: s :: wB d).getD 2 0 % 8 = 5 from h5), if_pos (by simp [wB])]
    have := le4_wB [139, 28, s] [] d hd
    rw [List.append_nil] at this
    rw [show le4 (139 :: 28 :: s :: wB d) (2 + 1) = d from this]
    rfl)
omit hd in
theorem sib_here (h5 : ¬ s % 8 = 5) : decM [139, 28, s] = .ok ⟨1, 0, onReg 3, onMem 0 (s % 8) (ixM s) (scM s), false, 3⟩ :=
  dec_mov (by omega) (by
    rw [sib_place (by omega) (by omega) (by simp)]
    unfold distM
    rw [if_neg (by omega), if_neg (by omega), if_neg (show ¬ [139, 28, s].getD 2 0 % 8 = 5 from h5)]
    rfl)
end
end Go.Proofs.YtlooobehlhgccaaDoor
