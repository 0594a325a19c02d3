import Derived.Test.YtcdoidnfdkodoaaGreatDoorS31
namespace Go.Proofs.YtcdoidnfdkodoaaGreatDoor
open Go.RowKit
set_option linter.unusedVariables false
set_option linter.unusedSimpArgs false
set_option linter.unusedSectionVars false
theorem or_code {x y : Int} (hx : 0 ≤ x ∧ x ≤ 255) (hy : 0 ≤ y ∧ y ≤ 255) : bits .or .u32 (x * 256) y = x * 256 + y := by
  obtain ⟨X, rfl⟩ := Int.eq_ofNat_of_zero_le hx.1
  obtain ⟨Y, rfl⟩ := Int.eq_ofNat_of_zero_le hy.1
  have e : ((X : Int) * 256) = ((X * 256 : Nat) : Int) := by omega
  rw [e, u32_or_nat' _ _ (by omega) (by omega)]
  have h := Nat.shiftLeft_add_eq_or_of_lt (a := X) (b := Y) (i := 8) (by omega)
  rw [Nat.shiftLeft_eq] at h
  rw [show X * 256 = X * 2 ^ 8 from rfl, ← h]
  omega
section
variable {w : World} {N B : Nat} {a : Option Addr} {len cap : Nat} {zs : List Int} {p : Nat} {c m : Int}
theorem opening_none (R : Rd w N B a len cap zs 0 c m) (h : ¬ 1 ≤ zs.length) :
    Calls Tryz.prog 223 #[rp B] w fun e w' => e = .panicked (errP 10) ∧ But [B] w.heap.size w w' := by
  have hN := Lib.hid (next1_no R (by simpa using h))
  go_enter Tryz.func223, Tryz.ntmps223
  go_wp2_with ((with_reducible refine hN.out.mono ?_); rintro e W2 ⟨rfl, b2⟩)
  exact ⟨rfl, rfl, But.of b2 _⟩
theorem opening_one (R : Rd w N B a len cap zs 0 c m) (h : 1 ≤ zs.length) (hc : ¬ (zs.getD 0 0 = 15 ∨ zs.getD 0 0 = 217 ∨ zs.getD 0 0 = 243)) :
    Calls Tryz.prog 223 #[rp B] w fun e w' => e = .returned (.int .u32 (zs.getD 0 0)) ∧ Rd w' N B a len cap zs 1 c m ∧ But [B] w.heap.size w w' := by
  have hN := Lib.hid (next1_yes R (by simpa using h))
  have h1 : ¬ zs.getD 0 0 = 15 := fun e => hc (.inl e)
  have h2 : ¬ zs.getD 0 0 = 217 := fun e => hc (.inr (.inl e))
  have h3 : ¬ zs.getD 0 0 = 243 := fun e => hc (.inr (.inr e))
  clear hc
  generalize zs.getD 0 0 = z at *
  go_enter Tryz.func223, Tryz.ntmps223
  go_wp2_with ((with_reducible refine hN.out.mono ?_); rintro e W2 ⟨rfl, r2, b2⟩)
  go_ret
  exact ⟨rfl, r2, b2⟩
theorem opening_short (R : Rd w N B a len cap zs 0 c m) (h : 1 ≤ zs.length) (hc : zs.getD 0 0 = 15 ∨ zs.getD 0 0 = 217 ∨ zs.getD 0 0 = 243) (h2 : ¬ 2 ≤ zs.length) :
    Calls Tryz.prog 223 #[rp B] w fun e w' => e = .panicked (errP 10) ∧ But [B] w.heap.size w w' := by
  have hN := Lib.hid (next1_yes R (by simpa using h))
  have hM := Lib.hid (fun W (R : Rd W N B a len cap zs 1 c m) => next1_no R h2)
  have hl := R.lt
  generalize zs.getD 0 0 = z at *
  rcases hc with rfl | rfl | rfl
  all_goals
  · go_enter Tryz.func223, Tryz.ntmps223
    go_wp2_with (first | ((with_reducible refine hN.out.mono ?_); rintro e W2 ⟨rfl, r2, b2⟩) | ((with_reducible refine (hM.out _ r2).mono ?_); rintro e W3 ⟨rfl, b3⟩))
    exact ⟨rfl, rfl, b2.trans (But.of (b3.mono b2.size) _)⟩
theorem opening_two (R : Rd w N B a len cap zs 0 c m) (h : 1 ≤ zs.length) (hc : zs.getD 0 0 = 15 ∨ zs.getD 0 0 = 217 ∨ zs.getD 0 0 = 243) (h2 : 2 ≤ zs.length) :
    Calls Tryz.prog 223 #[rp B] w fun e w' => e = .returned (.int .u32 (zs.getD 0 0 * 256 + zs.getD 1 0)) ∧ Rd w' N B a len cap zs 2 c m ∧ But [B] w.heap.size w w' := by
  have hN := Lib.hid (next1_yes R (by simpa using h))
  have hM := Lib.hid (fun W (R : Rd W N B a len cap zs 1 c m) => next1_yes R h2)
  have hb := getD_bd R.row.2.1 1
  have hl := R.lt
  have ho := or_code (x := zs.getD 0 0) (y := zs.getD 1 0) (by omega) hb
  generalize zs.getD 0 0 = z at *
  generalize zs.getD 1 0 = y at *
  rcases hc with rfl | rfl | rfl
  all_goals
  · simp only [Int.reduceMul] at ho
    go_enter Tryz.func223, Tryz.ntmps223
    go_wp2_with (first | ((with_reducible refine hN.out.mono ?_); rintro e W2 ⟨rfl, r2, b2⟩) | ((with_reducible refine (hM.out _ r2).mono ?_); rintro e W3 ⟨rfl, r3, b3⟩))
    go_ret
    exact ⟨ret_int (by omega), r3, b2.trans (b3.mono b2.size (fun _ h => .inl h))⟩
theorem opening_yes (R : Rd w N B a len cap zs 0 c m) {d : Int} {q : Nat} (h : openM zs = some (d, q)) :
    Calls Tryz.prog 223 #[rp B] w fun e w' => e = .returned (.int .u32 d) ∧ Rd w' N B a len cap zs q c m ∧ But [B] w.heap.size w w' := by
  unfold openM at h
  split at h
  · split at h
    · split at h
      · obtain ⟨rfl, rfl⟩ := Prod.mk.inj (Option.some.inj h)
        exact opening_two R (by assumption) (by assumption) (by assumption)
      · cases h
    · obtain ⟨rfl, rfl⟩ := Prod.mk.inj (Option.some.inj h)
      exact opening_one R (by assumption) (by assumption)
  · cases h
theorem opening_no (R : Rd w N B a len cap zs 0 c m) (h : openM zs = none) :
    Calls Tryz.prog 223 #[rp B] w fun e w' => e = .panicked (errP 10) ∧ But [B] w.heap.size w w' := by
  unfold openM at h
  split at h
  · split at h
    · split at h
      · cases h
      · exact opening_short R (by assumption) (by assumption) (by assumption)
    · cases h
  · exact opening_none R (by assumption)
end
def rowM (zs : List Int) (c : Int) (p : Nat) (r : Rw) : Except Int (In × Bool) :=
  if fitB c r then (match byM zs c p r with | .error x => .error x | .ok i => .ok (i, isB i)) else .ok (inZ, false)
theorem firstM_cons (zs : List Int) (c : Int) (p : Nat) (r : Rw) (rs : List Rw) :
    firstM zs c p (r :: rs) = match rowM zs c p r with | .error x => .error x | .ok (i, true) => .ok (some i) | .ok (_, false) => firstM zs c p rs := by
  unfold rowM
  rw [firstM]
  split
  · cases byM zs c p r with
    | error x => rfl
    | ok i => dsimp only; cases isB i <;> rfl
  · rfl
theorem firstM_skip (zs : List Int) (c : Int) (p : Nat) : ∀ (A B : List Rw), firstM zs c p A = .ok none → firstM zs c p (A ++ B) = firstM zs c p B := by
  intro A
  induction A with
  | nil => intro B h; rfl
  | cons r A ih =>
    intro B h
    rw [firstM_cons] at h
    rw [List.cons_append, firstM_cons]
    cases hr : rowM zs c p r with
    | error x => rw [hr] at h; cases h
    | ok x =>
      obtain ⟨i, b⟩ := x
      rw [hr] at h
      cases b
      · exact ih B h
      · cases h
section
variable {w : World} {N B : Nat} {a : Option Addr} {len cap : Nat} {zs : List Int} {p : Nat} {c m : Int}
theorem fitting_ret (R : Rd w N B a len cap zs p c 0) (tabs : Tabs w) (r : Rw) (ok : r.ok) {i : In} {b : Bool} (h : rowM zs c p r = .ok (i, b)) :
    Calls Tryz.prog 224 #[rp B, rwV r] w fun e w' => e = .returned (.tuple #[inV i, .bool b]) ∧ Below w.heap.size w w' := by
  unfold rowM at h
  split at h
  · rename_i hf
    cases hb : byM zs c p r with
    | error x => rw [hb] at h; cases h
    | ok j =>
      rw [hb] at h
      obtain ⟨rfl, rfl⟩ := Prod.mk.inj (Except.ok.inj h)
      exact fitting_ok R tabs r ok hf hb
  · rename_i hf
    obtain ⟨rfl, rfl⟩ := Prod.mk.inj (Except.ok.inj h)
    exact fitting_not R r (by simpa using hf)
theorem fitting_pan (R : Rd w N B a len cap zs p c 0) (tabs : Tabs w) (r : Rw) (ok : r.ok) {n : Int} (h : rowM zs c p r = .error n) :
    Calls Tryz.prog 224 #[rp B, rwV r] w fun e w' => e = .panicked (errP n) ∧ Below w.heap.size w w' := by
  unfold rowM at h
  split at h
  · rename_i hf
    cases hb : byM zs c p r with
    | error x =>
      rw [hb] at h
      obtain rfl := Except.error.inj h
      exact fitting_err R tabs r ok hf hb
    | ok j => rw [hb] at h; cases h
  · cases h
end
theorem ix_sl (b off n cap k : Nat) (h : k < n) (W : World) : (Instr.indexAt 224 (.slice (some ⟨b, off, none⟩) n cap) (.int .i64 (k : Int))).run Tryz.prog W = .ok (.pointer (some ⟨b, off + k * 5, none⟩)) W := by
  have s1 : ∀ W, (sizeOf 226).run Tryz.prog W = .ok 5 W := fun W => by kernel_rfl
  have hj : (k : Int) < n := by omega
  simp [Instr.indexAt, run_underlying Tryz.underlying224, s1, go_sem, hj, h, Instr.sureAddr]
abbrev rw0 : Array Value := #[.int .u32 0, .int .u32 0, .int .i64 0, .int .i64 0, .int .i64 0]
theorem rw5_one (r : Rw) : (rw5 r).all (·.oneCell') = true := by simp [Value.oneCell']
theorem store_rw_as {ops : Array Oper} {rest : List Oper} {o : Oper} {a : Act} {w0 : World} {Q : Exit → Act → World → Prop} (hgd : o.guard = none) (x y : Operand) (ho : o.op = .store 226 x y)
    (r : Rw) (hx : a.eval x = .pointer (some ⟨w0.heap.size, 0, none⟩)) (hy : a.eval y = rwV r)
    (h : ∀ W, Blk W w0.heap.size 226 (rw5 r) → Below w0.heap.size w0 W → wpList Tryz.prog ops Q rest (a.put o.dst undef) W) :
    wpList Tryz.prog ops Q (o :: rest) a (w0.alloc (.cells rw0 226)) := by
  refine wpList_store_row hgd 226 x y ho w0.heap.size (rw5 r) hx hy 226 rw0 (alloc_new _ _) (szRw r) rfl (rw5_one r) ?_
  exact h _ ((Blk.new w0 226 rw0).row (rw5 r)) (below_rowNew ((Below.refl _ _).alloc (Nat.le_refl _) _) (Nat.le_refl _) _)
theorem load_rwM {ops : Array Oper} {rest : List Oper} {o : Oper} {a : Act} {w : World} {Q : Exit → Act → World → Prop} (hgd : o.guard = none) (x : Operand) (ho : o.op = .load 226 x)
    (b off : Nat) (r : Rw) (hx : a.eval x = .pointer (some ⟨b, off, none⟩)) (hR : ∀ i, i < 5 → w.cell? ⟨b, off + i, none⟩ = (rw5 r)[i]?)
    (h : wpList Tryz.prog ops Q rest (a.put o.dst (rwV r)) w) : wpList Tryz.prog ops Q (o :: rest) a w := by
  refine wpList_load_mid hgd 226 x ho b off hx (rw5 r).toList _ (fun j v hj => ?_) Tryz.underlying226 rfl (by simpa using szRw r) (by simpa using h)
  have hj5 : j < 5 := by
    have := (List.getElem?_eq_some_iff.1 hj).1
    simpa using this
  rw [hR j hj5]
  simpa using hj
end Go.Proofs.YtcdoidnfdkodoaaGreatDoor
