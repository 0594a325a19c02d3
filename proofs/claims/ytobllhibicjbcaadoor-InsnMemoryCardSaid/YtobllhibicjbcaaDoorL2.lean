/- InsnMemory. -/
import Derived.Test.YtobllhibicjbcaaDoorC7
namespace Go.Proofs.YtobllhibicjbcaaDoor
open Go.RowKit
set_option linter.unusedVariables false
set_option linter.unusedSimpArgs false
set_option linter.unusedSectionVars false

/-- An operand in memory counts as a place there, or as nothing. -/
theorem cA_mem3 (o : On) (h : o.k = 3) : cA o = 0 ∨ cA o = 8 := by
  obtain ⟨k, r, m, b, x, s⟩ := o
  obtain rfl : k = 3 := h
  show (bif r == 0 then memA b x s else 0) = 0 ∨ (bif r == 0 then memA b x s else 0) = 8
  unfold memA
  cases (r == 0) <;> cases ((b == -1 || isRegB b) && isIndexB x s) <;> simp
theorem isB_takes {i : In} (h : isB i = true) : takesB (rowN i.op) (cA i.A) (cA i.B) = true := by
  unfold isB at h
  simp only [Bool.and_eq_true] at h
  exact h.2
theorem rT_row (op : Int) : (rT (rowN op) == 2) = (op == 26) := by
  refine rowN_cases (fun op => (rT (rowN op) == 2) = (op == 26)) ?_ (fun op h => ?_) op
  · decide
  · rw [rowN_out h, Bool.eq_iff_iff]; simp [rT]; omega
def quietB (op : Int) : Bool := op == 44 || op == 38 || op == 39 || op == 40 || op == 26 || op == 43 || op == 33 || op == 51 || op == 52
/-- What the quiet ones' rows take is no memory. -/
def rowQ (k : Nat) : Bool := k == 17 || k == 19 || k == 16 || k == 9
theorem quiet_row (op : Int) (h : quietB op = true) : rowQ (rowN op) = true := by
  revert h
  refine rowN_cases (fun op => quietB op = true → rowQ (rowN op) = true) ?_ (fun op h => ?_) op
  · decide
  · intro h2
    simp [quietB] at h2
    omega
theorem both_mem : ∀ k, k < 21 → takesB k 8 8 = false := by
  have : ((List.range 21).all fun k => takesB k 8 8 == false) = true := by kernel_rfl
  intro k hk
  have := List.all_eq_true.1 this k (List.mem_range.2 hk)
  simpa using this
theorem none_mem : ∀ k, k < 21 → ∀ c ∈ ([0, 1, 2, 6, 8, 16, 48, 112] : List Int), takesB k 0 c = false ∧ takesB k c 0 = false := by
  have : ((List.range 21).all fun k => ([0, 1, 2, 6, 8, 16, 48, 112] : List Int).all fun c => takesB k 0 c == false && takesB k c 0 == false) = true := by kernel_rfl
  intro k hk c hc
  have := List.all_eq_true.1 (List.all_eq_true.1 this k (List.mem_range.2 hk)) c hc
  simpa using this
theorem quiet_mem : ∀ k, k < 21 → rowQ k = true → k ≠ 9 → ∀ c ∈ ([0, 1, 2, 6, 8, 16, 48, 112] : List Int), rT k = 0 ∧ takesB k 8 c = false ∧ takesB k c 8 = false := by
  have : ((List.range 21).all fun k => !rowQ k || k == 9 || ([0, 1, 2, 6, 8, 16, 48, 112] : List Int).all fun c => rT k == 0 && takesB k 8 c == false && takesB k c 8 == false) = true := by kernel_rfl
  intro k hk hq h9 c hc
  have := List.all_eq_true.1 this k (List.mem_range.2 hk)
  rw [hq] at this
  simp only [Bool.not_true, Bool.false_or, Bool.or_eq_true, beq_iff_eq] at this
  rcases this with h | h
  · exact absurd h h9
  · have := List.all_eq_true.1 h c hc
    simp only [Bool.and_eq_true, beq_iff_eq] at this
    exact ⟨this.1.1, this.1.2, this.2⟩
def memB (i : In) : Bool := i.A.k == 3 || i.B.k == 3
theorem mem_facts (i : In) (h : isB i = true) :
    (i.A.k == 3 && i.B.k == 3) = false ∧ (!memB i || i.op == 26 || touchB i) = true ∧ (!quietB i.op || !touchB i) = true := by
  have ht := isB_takes h
  have hk := rowN_lt i.op
  have hA : i.A.k = 3 → cA i.A = 8 := fun e => by
    rcases cA_mem3 i.A e with h0 | h0
    · rw [h0, (none_mem _ hk _ (cA_mem i.B)).1] at ht; cases ht
    · exact h0
  have hB : i.B.k = 3 → cA i.B = 8 := fun e => by
    rcases cA_mem3 i.B e with h0 | h0
    · rw [h0, (none_mem _ hk _ (cA_mem i.A)).2] at ht; cases ht
    · exact h0
  refine ⟨?_, ?_, ?_⟩
  · by_cases e1 : i.A.k = 3
    · by_cases e2 : i.B.k = 3
      · rw [hA e1, hB e2, both_mem _ hk] at ht; cases ht
      · simp [e2]
    · simp [e1]
  · unfold touchB memB
    rw [rT_row]
    cases (rT (rowN i.op) == 1) <;> cases (i.op == 26) <;> cases (i.A.k == 3 || i.B.k == 3) <;> rfl
  · by_cases hq : quietB i.op = true
    · have hr := quiet_row i.op hq
      unfold touchB
      by_cases h9 : rowN i.op = 9
      · rw [h9]; simp [rT]
      · have q := quiet_mem _ hk hr h9
        have hA3 : (i.A.k == 3) = false := by
          rw [beq_eq_false_iff_ne]
          intro e
          rw [hA e, (q _ (cA_mem i.B)).2.1] at ht; cases ht
        have hB3 : (i.B.k == 3) = false := by
          rw [beq_eq_false_iff_ne]
          intro e
          rw [hB e, (q _ (cA_mem i.A)).2.2] at ht; cases ht
        rw [(q 0 (by decide)).1, hA3, hB3]
        simp
    · simp [hq]
set_option maxHeartbeats 4000000 in
set_option maxRecDepth 100000 in
theorem memory_walk (i : In) (w : World) (tabs : Tabs w) :
    Calls Tryd.prog 4 #[inV i] w fun e w' => e = .returned (.bool true) ∧ Below w.heap.size w w' := by
  have kb := (Below.refl w.heap.size w).alloc (Nat.le_refl _) (.cells (in16 i) 26)
  have kI := Blk.new w 26 (in16 i)
  replace tabs := tabs.below kb
  have z1 : (in16 i).size = 16 := rfl
  have qI := Lib.hid (fun W tabs => Is_any i W tabs)
  have qT := Lib.hid (fun W tabs => Touches_any i W tabs)
  have hf := Lib.hid (mem_facts i)
  generalize isB i = q at *
  generalize touchB i = t at *
  go_enter Tryd.func4, Tryd.ntmps4
  go_wp2_with fail
  have hSB := kb.size
  generalize w.alloc (.cells (in16 i) 26) = w0 at *
  generalize hN : w.heap.size = N at *
  refine (known_any _ tabs).mono ?_
  rintro e w1 ⟨rfl, bb⟩
  replace kI := kI.below bb kI.lt
  replace tabs := tabs.below bb
  replace kb := kb.trans (bb.mono hSB)
  replace hSB := Nat.le_trans hSB bb.size
  clear bb
  cases q
  · go_wp2_with (first | (with_reducible refine load_inG (by with_unfolding_all exact rfl) _ rfl N rfl (in16 i) z1 kI ?_) | ((with_reducible refine (qI.out _ tabs).mono ?_); rintro e w3 ⟨rfl, bb⟩; replace kb := kb.trans (bb.mono hSB)))
    go_ret
    exact ⟨rfl, hN ▸ kb⟩
  · obtain ⟨f1, f2, f3⟩ := hf.out rfl
    replace f1 := Lib.hid f1
    replace f2 := Lib.hid f2
    replace f3 := Lib.hid f3
    clear hf
    go_upto_region 5 with (first | (with_reducible refine load_inG (by with_unfolding_all exact rfl) _ rfl N rfl (in16 i) z1 kI ?_) | ((with_reducible refine (qI.out _ tabs).mono ?_); rintro e w3 ⟨rfl, bb⟩; replace kI := kI.below bb kI.lt; replace tabs := tabs.below bb; replace kb := kb.trans (bb.mono hSB); replace hSB := Nat.le_trans hSB bb.size; clear bb))
    have d0 := kI.cell (i := 0) (v := .int .i64 i.op) rfl
    have d2 := kI.cell (i := 2) (v := .int .i64 i.A.k) rfl
    have d8 := kI.cell (i := 8) (v := .int .i64 i.B.k) rfl
    try simp only [Act.put]
    go_cut [3] from 10 to 95 (fun t3 W => t3 = .bool (memB i) ∧ W = w3)
    case first =>
      go_wp2
      all_goals go_meet
      all_goals refine ⟨congrArg Value.bool ?_, rfl⟩
      all_goals clear kI tabs kb hSB d0 d2 d8 z1 qI qT f1 f2 f3
      all_goals unfold memB
      all_goals simp [*]
    case rest =>
    obtain ⟨rfl, rfl⟩ := hcut
    go_upto_region 6 with fail
    go_cut [4] from 10 to 95 (fun t4 W => t4 = .bool (quietB i.op) ∧ W = wc)
    case first =>
      go_wp2
      all_goals go_meet
      all_goals refine ⟨congrArg Value.bool ?_, rfl⟩
      all_goals clear kI tabs kb hSB d0 d2 d8 z1 qI qT f1 f2 f3
      all_goals unfold quietB
      all_goals simp [*]
    case rest =>
    obtain ⟨rfl, rfl⟩ := hcut
    clear qI d0 d2 d8
    generalize memB i = m at *
    generalize quietB i.op = qq at *
    replace f1 := f1.out
    replace f2 := f2.out
    obtain ⟨a3, hA⟩ : ∃ a, (i.A.k == 3) = a := ⟨_, rfl⟩
    obtain ⟨b3, hB⟩ : ∃ a, (i.B.k == 3) = a := ⟨_, rfl⟩
    obtain ⟨o3, hO⟩ : ∃ a, (i.op == 26) = a := ⟨_, rfl⟩
    rw [hA, hB] at f1
    rw [hO] at f2
    replace f1 := Lib.hid f1
    replace f2 := Lib.hid f2
    have d0 := kI.cell (i := 0) (v := .int .i64 i.op) rfl
    have d1 := kI.cell (i := 1) (v := .int .i64 i.c) rfl
    have d2 := kI.cell (i := 2) (v := .int .i64 i.A.k) rfl
    have d3 := kI.cell (i := 3) (v := .int .i64 i.A.r) rfl
    have d4 := kI.cell (i := 4) (v := .int .u32 i.A.m) rfl
    have d5 := kI.cell (i := 5) (v := .int .i64 i.A.b) rfl
    have d6 := kI.cell (i := 6) (v := .int .i64 i.A.x) rfl
    have d7 := kI.cell (i := 7) (v := .int .u32 i.A.s) rfl
    have d8 := kI.cell (i := 8) (v := .int .i64 i.B.k) rfl
    have d9 := kI.cell (i := 9) (v := .int .i64 i.B.r) rfl
    have d10 := kI.cell (i := 10) (v := .int .u32 i.B.m) rfl
    have d11 := kI.cell (i := 11) (v := .int .i64 i.B.b) rfl
    have d12 := kI.cell (i := 12) (v := .int .i64 i.B.x) rfl
    have d13 := kI.cell (i := 13) (v := .int .u32 i.B.s) rfl
    have d14 := kI.cell (i := 14) (v := .bool i.rep) rfl
    have d15 := kI.cell (i := 15) (v := .int .i64 i.len) rfl
    go_wp2_with ((with_reducible refine (qT.out _ tabs).mono ?_); rintro e w4 ⟨rfl, bb⟩; replace kI := kI.below bb kI.lt; replace tabs := tabs.below bb; replace kb := kb.trans (bb.mono hSB); replace hSB := Nat.le_trans hSB bb.size; clear bb d0 d1 d2 d3 d4 d5 d6 d7 d8 d9 d10 d11 d12 d13 d14 d15; have d0 := kI.cell (i := 0) (v := .int .i64 i.op) rfl; have d1 := kI.cell (i := 1) (v := .int .i64 i.c) rfl; have d2 := kI.cell (i := 2) (v := .int .i64 i.A.k) rfl; have d3 := kI.cell (i := 3) (v := .int .i64 i.A.r) rfl; have d4 := kI.cell (i := 4) (v := .int .u32 i.A.m) rfl; have d5 := kI.cell (i := 5) (v := .int .i64 i.A.b) rfl; have d6 := kI.cell (i := 6) (v := .int .i64 i.A.x) rfl; have d7 := kI.cell (i := 7) (v := .int .u32 i.A.s) rfl; have d8 := kI.cell (i := 8) (v := .int .i64 i.B.k) rfl; have d9 := kI.cell (i := 9) (v := .int .i64 i.B.r) rfl; have d10 := kI.cell (i := 10) (v := .int .u32 i.B.m) rfl; have d11 := kI.cell (i := 11) (v := .int .i64 i.B.b) rfl; have d12 := kI.cell (i := 12) (v := .int .i64 i.B.x) rfl; have d13 := kI.cell (i := 13) (v := .int .u32 i.B.s) rfl; have d14 := kI.cell (i := 14) (v := .bool i.rep) rfl; have d15 := kI.cell (i := 15) (v := .int .i64 i.len) rfl)
    all_goals go_ret
    all_goals refine ⟨ret_bool ?_, hN ▸ kb⟩
    all_goals clear kI tabs kb hSB z1 qT hA hB hO
    all_goals replace f1 := f1.out
    all_goals replace f2 := f2.out
    all_goals replace f3 := f3.out
    all_goals simp_all
end Go.Proofs.YtobllhibicjbcaaDoor
