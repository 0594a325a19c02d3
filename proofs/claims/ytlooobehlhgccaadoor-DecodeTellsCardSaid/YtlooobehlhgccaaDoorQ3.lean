/- Operands, instructions that are the same; what rows come to. -/
import Derived.Test.YtlooobehlhgccaaDoorQ2
import Derived.Test.YtlooobehlhgccaaDoorD1
namespace Go.Proofs.YtlooobehlhgccaaDoor
open Go.RowKit
set_option linter.unusedVariables false
set_option linter.unusedSimpArgs false
set_option linter.unusedSectionVars false

theorem eq_on (o : On) (W : World) : (Op.equalIn 9999 26 (opV o) (opV o)).run Tryd.prog W = .ok true W := by
  go_simp
theorem eq_on2 (o : On) (W : World) : (Op.equalIn 10000 26 (opV o) (opV o)).run Tryd.prog W = .ok true W := by
  go_simp
theorem eq_in (i : In) (W : World) : (Op.equalIn 10000 28 (inV i) (inV i)).run Tryd.prog W = .ok true W := by
  have h := fun o W => eq_on o W
  go_simp
theorem dec_flat {zs : List Int} {c : Int} {p : Nat} {r : Rw} {op : Int} {A B : On} {q q' : Nat} (h : openM zs = some (c, p)) (hr : rowsOf c = [r]) (h6 : ¬ (r.a = 6 ∨ r.b = 6)) (ho : opM c 0 r = op) (h0 : ¬ op = 0) (h1 : ¬ op = -1)
    (hA : operM zs c 0 p r.a = some (A, q)) (hB : operM zs c 0 q r.b = some (B, q')) (hi : isB ⟨op, if r.g = 65520 then c % 16 else 0, A, B, c / 256 == 243, q'⟩ = true) :
    decM zs = .ok ⟨op, if r.g = 65520 then c % 16 else 0, A, B, c / 256 == 243, q'⟩ := by
  rw [dec_one h hr]
  unfold byM
  rw [if_neg h6, rest_ok ho h0 h1 hA hB]
  exact isOr_ok hi
/-- The four bytes of a word. -/
def wB (v : Int) : List Int := [v % 256, v / 256 % 256, v / 65536 % 256, v / 16777216]
theorem wB_bd (v : Int) (hv : 0 ≤ v ∧ v ≤ 4294967295) : ∀ z ∈ wB v, 0 ≤ z ∧ z ≤ 255 := by
  intro z hz
  simp only [wB, List.mem_cons, List.not_mem_nil, or_false] at hz
  omega
theorem le4_wB (xs ys : List Int) (v : Int) (hv : 0 ≤ v ∧ v ≤ 4294967295) : le4 (xs ++ wB v ++ ys) xs.length = v := by
  have g : ∀ k, k < 4 → (xs ++ wB v ++ ys).getD (xs.length + k) 0 = (wB v).getD k 0 := fun k hk => by
    have h4 : k < (wB v).length := by simpa [wB] using hk
    simp only [List.getD_eq_getElem?_getD]
    rw [List.append_assoc, List.getElem?_append_right (by omega), show xs.length + k - xs.length = k by omega, List.getElem?_append_left h4]
  unfold le4
  rw [show xs.length = xs.length + 0 from rfl, g 0 (by decide), Nat.add_zero, g 1 (by decide), g 2 (by decide), g 3 (by decide)]
  simp only [wB, List.getD_cons_zero, List.getD_cons_succ]
  omega
theorem le4_w1 (x v : Int) (hv : 0 ≤ v ∧ v ≤ 4294967295) : le4 (x :: wB v) 1 = v := by
  have := le4_wB [x] [] v hv
  simpa using this
theorem le4_w2 (x y v : Int) (hv : 0 ≤ v ∧ v ≤ 4294967295) : le4 (x :: y :: wB v) 2 = v := by
  have := le4_wB [x, y] [] v hv
  simpa using this
theorem rows_jcc4 : ∀ n : Nat, n < 16 → rowsOf (3968 + (n : Int)) = [⟨65520, 3968, 33, 9, 0⟩] := of_decide_eq_true (by kernel_rfl)
theorem rows_jcc1 : ∀ n : Nat, n < 16 → rowsOf (112 + (n : Int)) = [⟨65520, 112, 33, 8, 0⟩] := of_decide_eq_true (by kernel_rfl)
theorem rows_movi : ∀ n : Nat, n < 8 → rowsOf (184 + (n : Int)) = [⟨65528, 184, 1, 4, 9⟩] := of_decide_eq_true (by kernel_rfl)
theorem rows_call : rowsOf 232 = [⟨65535, 232, 30, 9, 0⟩] := by kernel_rfl
theorem rows_reg : ∀ k : Nat, k < 4 → ∀ n : Nat, n < 8 → rowsOf (64 + 8 * (k : Int) + (n : Int)) = [⟨65528, 64 + 8 * k, [12, 13, 28, 29].getD k 0, 4, 0⟩] := of_decide_eq_true (by kernel_rfl)
def regOp (k : Nat) : Int := [12, 13, 28, 29].getD k 0
theorem takes_reg (k : Nat) (hk : k < 4) (a : Int) (ha : a = 2 ∨ a = 6) : takesB (rowN (regOp k)) a 1 = true := by
  have : ∀ k : Nat, k < 4 → takesB (rowN (regOp k)) 2 1 = true ∧ takesB (rowN (regOp k)) 6 1 = true := of_decide_eq_true (by kernel_rfl)
  rcases ha with rfl | rfl
  · exact (this k hk).1
  · exact (this k hk).2
theorem cA_reg2 {r : Int} (h : 0 ≤ r ∧ r < 8) : cA (onReg r) = 2 ∨ cA (onReg r) = 6 := by
  rw [cA_reg h]; split <;> simp
theorem dec_reg (k : Nat) (hk : k < 4) (n : Int) (hn : 0 ≤ n ∧ n < 8) : decM [64 + 8 * (k : Int) + n] = .ok ⟨regOp k, 0, onReg n, onZ, false, 1⟩ := by
  obtain ⟨m, rfl⟩ := Int.eq_ofNat_of_zero_le hn.1
  have hr := rows_reg k hk m (by omega)
  have e1 : (64 + 8 * (k : Int) + (m : Int)) % 8 = m := by omega
  have e2 : ((64 + 8 * (k : Int) + (m : Int)) / 256 == 243) = false := by simp; omega
  have hop : regOp k = 12 ∨ regOp k = 13 ∨ regOp k = 28 ∨ regOp k = 29 := by
    have : ∀ k : Nat, k < 4 → regOp k = 12 ∨ regOp k = 13 ∨ regOp k = 28 ∨ regOp k = 29 := of_decide_eq_true (by kernel_rfl)
    exact this k hk
  have hi : isB ⟨regOp k, 0, onReg m, onZ, false, 1⟩ = true := by
    rw [isB_of (l := 1) rfl cA_z rfl (by decide)]
    rw [takes_reg k hk _ (cA_reg2 ⟨hn.1, hn.2⟩)]
    simp [knowsB]
  have := dec_flat (zs := [64 + 8 * (k : Int) + (m : Int)]) (r := ⟨65528, 64 + 8 * k, regOp k, 4, 0⟩) (A := onReg m) (B := onZ) (q := 1) (q' := 1) (open_one (by omega)) hr (by simp) (op := regOp k) (by unfold opM; exact if_pos (by dsimp only; omega)) (by omega) (by omega) (by unfold operM; simp [e1]) (by unfold operM; simp)
  rw [e2] at this
  exact this hi
theorem dec_jcc4 (n v : Int) (hn : 0 ≤ n ∧ n < 16) (hv : 0 ≤ v ∧ v ≤ 4294967295) : decM (15 :: (128 + n) :: wB v) = .ok ⟨33, n, onImm v, onZ, false, 6⟩ := by
  obtain ⟨m, rfl⟩ := Int.eq_ofNat_of_zero_le hn.1
  have hr := rows_jcc4 m (by omega)
  have e1 : (3968 + (m : Int)) % 16 = m := by omega
  have e2 : ((3968 + (m : Int)) / 256 == 243) = false := by simp; omega
  have ho := open_two (z := 15) (y := 128 + (m : Int)) (t := wB v) (.inl rfl)
  rw [show (15 : Int) * 256 + (128 + (m : Int)) = 3968 + m by omega] at ho
  have hi : isB ⟨33, (m : Int), onImm v, onZ, false, 6⟩ = true := by
    rw [isB_of (l := 6) rfl cA_z rfl (by decide)]
    have h1 : knowsB 16 (m : Int) = true := by unfold knowsB; simp [rC]; omega
    have h2 : takesB 16 (cA (onImm v)) 1 = true := by rcases cA_imm3 v with h | h | h <;> rw [h] <;> kernel_rfl
    show (_ && knowsB 16 (m : Int) && takesB 16 (cA (onImm v)) 1) = true
    rw [h1, h2]; rfl
  have := dec_flat (zs := 15 :: (128 + (m : Int)) :: wB v) (r := ⟨65520, 3968, 33, 9, 0⟩) (A := onImm v) (B := onZ) (q := 6) (q' := 6) ho hr (by decide) (op := 33) rfl (by decide) (by decide) (by unfold operM; simp [wB]; exact congrArg onImm (le4_w2 _ _ _ hv)) (by unfold operM; simp)
  rw [e2] at this
  dsimp only at this
  rw [if_pos rfl, e1] at this
  exact this hi
theorem dec_jcc1 (n z : Int) (hn : 0 ≤ n ∧ n < 16) : decM [112 + n, z] = .ok ⟨33, n, onImm (sx z), onZ, false, 2⟩ := by
  obtain ⟨m, rfl⟩ := Int.eq_ofNat_of_zero_le hn.1
  have hr := rows_jcc1 m (by omega)
  have e1 : (112 + (m : Int)) % 16 = m := by omega
  have e2 : ((112 + (m : Int)) / 256 == 243) = false := by simp; omega
  have hi : isB ⟨33, (m : Int), onImm (sx z), onZ, false, 2⟩ = true := by
    rw [isB_of (l := 2) rfl cA_z rfl (by decide)]
    have h1 : knowsB 16 (m : Int) = true := by unfold knowsB; simp [rC]; omega
    have h2 : takesB 16 (cA (onImm (sx z))) 1 = true := by rcases cA_imm3 (sx z) with h | h | h <;> rw [h] <;> kernel_rfl
    show (_ && knowsB 16 (m : Int) && takesB 16 (cA (onImm (sx z))) 1) = true
    rw [h1, h2]; rfl
  have := dec_flat (zs := [112 + (m : Int), z]) (r := ⟨65520, 112, 33, 8, 0⟩) (A := onImm (sx z)) (B := onZ) (q := 2) (q' := 2) (open_one (by omega)) hr (by decide) (op := 33) rfl (by decide) (by decide) (by unfold operM; simp) (by unfold operM; simp)
  rw [e2] at this
  dsimp only at this
  rw [if_pos rfl, e1] at this
  exact this hi
theorem dec_call4 (v : Int) (hv : 0 ≤ v ∧ v ≤ 4294967295) : decM (232 :: wB v) = .ok ⟨30, 0, onImm v, onZ, false, 5⟩ := by
  have hi : isB ⟨30, 0, onImm v, onZ, false, 5⟩ = true := by
    rw [isB_of (l := 5) rfl cA_z rfl (by decide)]
    have h2 : takesB 13 (cA (onImm v)) 1 = true := by rcases cA_imm3 v with h | h | h <;> rw [h] <;> kernel_rfl
    show (_ && knowsB 13 0 && takesB 13 (cA (onImm v)) 1) = true
    rw [h2]; rfl
  exact dec_flat (zs := 232 :: wB v) (r := ⟨65535, 232, 30, 9, 0⟩) (A := onImm v) (B := onZ) (q := 5) (q' := 5) (open_one (by decide)) rows_call (by decide) (op := 30) rfl (by decide) (by decide) (by unfold operM; simp [wB]; exact congrArg onImm (le4_w1 _ _ hv)) (by unfold operM; simp) hi
theorem dec_movi (n v : Int) (hn : 0 ≤ n ∧ n < 8) (hv : 0 ≤ v ∧ v ≤ 4294967295) : decM ((184 + n) :: wB v) = .ok ⟨1, 0, onReg n, onImm v, false, 5⟩ := by
  obtain ⟨m, rfl⟩ := Int.eq_ofNat_of_zero_le hn.1
  have hr := rows_movi m (by omega)
  have e1 : (184 + (m : Int)) % 8 = m := by omega
  have e2 : ((184 + (m : Int)) / 256 == 243) = false := by simp; omega
  have hi : isB ⟨1, 0, onReg m, onImm v, false, 5⟩ = true := by
    rw [isB_of (l := 5) rfl rfl rfl (by decide)]
    have h2 : takesB 1 (cA (onReg m)) (cA (onImm v)) = true := by rcases cA_imm3 v with h | h | h <;> rcases cA_reg2 (r := m) ⟨hn.1, hn.2⟩ with g | g <;> rw [h, g] <;> kernel_rfl
    show (_ && knowsB 1 0 && takesB 1 (cA (onReg m)) (cA (onImm v))) = true
    rw [h2]; rfl
  have := dec_flat (zs := (184 + (m : Int)) :: wB v) (r := ⟨65528, 184, 1, 4, 9⟩) (A := onReg m) (B := onImm v) (q := 1) (q' := 5) (open_one (by omega)) hr (by decide) (op := 1) rfl (by decide) (by decide) (by unfold operM; simp [e1]) (by unfold operM; simp [wB]; exact congrArg onImm (le4_w1 _ _ hv))
  rw [e2] at this
  exact this hi
/-- A list of bytes written out, as its cells, its length. -/
structure LitB (cells : Array Value) (zs : List Int) (n : Nat) : Prop where
  hc : cells = (zs.map (Value.int .u8)).toArray
  hz : ∀ z ∈ zs, 0 ≤ z ∧ z ≤ 255
  hn : zs.length = n
  hl : n ≤ 20
theorem append_lit {ops : Array Oper} {rest : List Oper} {o : Oper} {a : Act} {Q : Exit → Act → World → Prop} (W : World) (hgd : o.guard = none) (s x : Operand)
    (ho : o.op = .call { callee := .builtin .append, args := #[s, x], argTypes := #[22, 22] })
    {cells : Array Value} {zs : List Int} {n : Nat} (L : LitB cells zs n) (hs : a.eval s = .slice (some ⟨W.heap.size, 0, none⟩) n n)
    (ys : List Int) (b : Option Addr) (m c : Nat) (hx : a.eval x = .slice b m c) (B : Ba W b m c ys) (hl : ys.length ≤ 80)
    (k : ∀ v' w', Own w' W.heap.size v' (zs ++ ys) → Below W.heap.size W w' → wpList Tryd.prog ops Q rest (a.put o.dst v') w') : wpList Tryd.prog ops Q (o :: rest) a (W.alloc (.cells cells 5)) := by
  obtain ⟨hc, hz, rfl, hl2⟩ := L
  have kb := (Below.refl W.heap.size W).alloc (Nat.le_refl _) (.cells cells 5)
  exact append_bytes hgd s x ho W.heap.size _ zs ys hs (Own.new W W.heap.size (Nat.le_refl _) zs hz (by omega) hc) kb.size b m c hx (B.below kb) (by omega) (fun v' w' h1 h2 => k v' w' h1 (kb.trans h2))
theorem Decode_litB {w : World} (tabs : Tabs w) {cells : Array Value} {zs : List Int} {n : Nat} (L : LitB cells zs n) {i : In} {x l : Int} (hi : decI zs = i ∧ decE zs = x) (hil : i.len = l) :
    Calls Tryd.prog 10 #[.slice (some ⟨w.heap.size, 0, none⟩) n n] (w.alloc (.cells cells 5)) fun e w' => e = .returned (.tuple #[inV i, .int .i64 l, .int .i64 x]) ∧ Below w.heap.size w w' :=
  Decode_lit w tabs zs L.hc L.hz (by have := L.hn; have := L.hl; omega) L.hn hi.1 hi.2 hil
theorem Decode_ownI {w : World} {N : Nat} {v : Value} {zs : List Int} (h : Own w N v zs) (tabs : Tabs w) {i : In} {x l : Int} (hi : decI zs = i ∧ decE zs = x) (hil : i.len = l) :
    Calls Tryd.prog 10 #[v] w fun e w' => e = .returned (.tuple #[inV i, .int .i64 l, .int .i64 x]) ∧ Below w.heap.size w w' := by
  obtain ⟨rfl, rfl⟩ := hi
  subst hil
  exact Decode_own h tabs
theorem sx_mod (v : Int) : sx (v % 256) = IntKind.i8.wrap v % 4294967296 := by
  unfold sx
  have : ∀ n : Int, IntKind.i8.wrap n = (n + 128) % 256 - 128 := fun n => by
    simp only [IntKind.wrap, IntKind.bits, IntKind.signed]
    simp
    split <;> omega
  rw [this, this]
  omega
theorem dec_i {zs : List Int} {i : In} (h : decM zs = .ok i) : decI zs = i ∧ decE zs = 0 := by unfold decI decE; rw [h]; exact ⟨rfl, rfl⟩
theorem dec_e {zs : List Int} {x : Int} (h : decM zs = .error x) : decI zs = inZ ∧ decE zs = x := by unfold decI decE; rw [h]; exact ⟨rfl, rfl⟩
end Go.Proofs.YtlooobehlhgccaaDoor
