/- InsnParts. -/
import Derived.Test.YtobllhibicjbcaaDoorC7
import Derived.Deep.CutRange
namespace Go.Proofs.YtobllhibicjbcaaDoor
open Go.RowKit
set_option linter.unusedVariables false
set_option linter.unusedSimpArgs false
set_option linter.unusedSectionVars false

theorem isB_parts {i : In} (h : isB i = true) : decide (0 ≤ i.len) = true ∧ decide (i.len ≤ 15) = true ∧ (rR (rowN i.op) || !i.rep) = true ∧ knowsB (rowN i.op) i.c = true ∧ takesB (rowN i.op) (cA i.A) (cA i.B) = true := by
  unfold isB at h
  simp only [Bool.and_eq_true] at h
  exact ⟨h.1.1.1.1, h.1.1.1.2, h.1.1.2, h.1.2, h.2⟩
theorem takes_zero : ∀ k, k < 21 → ∀ c ∈ ([0, 1, 2, 6, 8, 16, 48, 112] : List Int), takesB k 0 c = false ∧ takesB k c 0 = false := by
  have : ((List.range 21).all fun k => ([0, 1, 2, 6, 8, 16, 48, 112] : List Int).all fun c => takesB k 0 c == false && takesB k c 0 == false) = true := by kernel_rfl
  intro k hk c hc
  have := List.all_eq_true.1 (List.all_eq_true.1 this k (List.mem_range.2 hk)) c hc
  simpa using this
def iA (i : In) : In := { i with len := 16 }
def iB (i : In) (c : Int) : In := { i with c := c + 16 }
def iC (i : In) : In := { i with A := { i.A with k := 9 } }
def iD (i : In) : In := { i with rep := true }
def iE (i : In) : In := { i with B := { i.B with k := -1 } }
def iF (i : In) (c : Int) : In := { i with c := c % 15 + 1 }
theorem no_len (i : In) : isB (iA i) = false := by
  unfold isB iA
  simp
theorem no_cond (i : In) (c : Int) (hc : 0 ≤ c) : isB (iB i c) = false := by
  have : knowsB (rowN i.op) (c + 16) = false := by
    unfold knowsB
    rw [Bool.eq_false_iff]
    simp
    omega
  unfold isB iB
  simp [this]
theorem no_A (i : In) : isB (iC i) = false := by
  have e : cA { i.A with k := 9 } = 0 := rfl
  have := (takes_zero _ (rowN_lt i.op) _ (cA_mem i.B)).1
  unfold isB iC
  simp [e, this]
theorem no_B (i : In) : isB (iE i) = false := by
  have e : cA { i.B with k := -1 } = 0 := rfl
  have := (takes_zero _ (rowN_lt i.op) _ (cA_mem i.A)).2
  unfold isB iE
  simp [e, this]
theorem yes_rep (i : In) (h : isB i = true) : isB (iD i) = (i.op == 41 || i.op == 42) := by
  obtain ⟨h1, h2, h3, h4, h5⟩ := isB_parts h
  rw [← rep_row]
  unfold isB iD
  simp only [h1, h2, h4, h5]
  simp
theorem yes_cond (i : In) (c : Int) (h : isB i = true) (hc : 0 ≤ c) : isB (iF i c) = (i.op == 33 || i.op == 34 || i.op == 35) := by
  obtain ⟨h1, h2, h3, h4, h5⟩ := isB_parts h
  have : knowsB (rowN i.op) (c % 15 + 1) = rC (rowN i.op) := by
    unfold knowsB
    have e0 : (c % 15 + 1 == 0) = false := by rw [beq_eq_false_iff_ne]; omega
    have e1 : decide (0 < c % 15 + 1) = true := decide_eq_true (by omega)
    have e2 : decide (c % 15 + 1 < 16) = true := decide_eq_true (by omega)
    rw [e0, e1, e2]
    simp
  rw [← cond_row, ← this]
  unfold isB iF
  simp only [h1, h2, h3, h5]
  simp

abbrev tmP (i : In) (c : Int) (N : Nat) (t5 t6 t7 t8 t9 : Value) : Act := { tmps := #[inV i, .int .u8 c, .pointer (some ⟨N, 0, none⟩), undef, .bool false, t5, t6, t7, t8, t9, undef, undef, .bool true, .bool false, .agg (in16 i), .bool true, .bool false, .agg (in16 i), .agg (in16 i), .agg (in16 i), .agg (in16 i), .agg (in16 i), undef, undef, undef, undef, undef, undef, undef, undef, undef, undef, undef, undef, undef, undef, undef, undef, undef, undef, undef, undef, undef, undef, undef, undef, undef, undef, undef, undef, undef, undef, undef, undef, undef, undef, undef, undef, undef, undef, undef, undef, undef, undef, undef, undef, undef, undef, undef, undef, undef, undef, undef, undef, undef, undef, undef, undef, undef, undef, undef, undef, undef, undef, undef, undef, undef, undef], defers := [] }
theorem named_H {P : Program} {ops : Array Oper} {Q : Exit → Act → World → Prop} {S : World → Prop} {fuel : Nat} {listed : Array Bool} {a : Act} {w : World}
    (h : ∀ R : Nat → Array Bool → Act → World → Prop, R = wpAnyH P .any ops Q S → R fuel listed a w) : wpAnyH P .any ops Q S fuel listed a w := h _ rfl
theorem one_in (i : In) : (in16 i).all (·.oneCell') = true := by simp [Value.oneCell']

set_option maxRecDepth 100000 in
set_option maxHeartbeats 8000000 in
theorem parts_walk (i : In) (c : Int) (hc : 0 ≤ c ∧ c ≤ 255) (w : World) (tabs : Tabs w) :
    Calls Tryd.prog 3 #[inV i, .int .u8 c] w fun e w' => e = .returned (.bool true) ∧ Below w.heap.size w w' := by
  have kb := (Below.refl w.heap.size w).alloc (Nat.le_refl _) (.cells (in16 i) 26)
  have kI := Blk.new w 26 (in16 i)
  have tabs0 := tabs
  replace tabs := tabs.below kb
  have z1 : (in16 i).size = 16 := rfl
  have qI := Lib.hid (fun W tabs => Is_any i W tabs)
  have qA := Lib.hid (fun W tabs => Is_any (iA i) W tabs)
  have qB := Lib.hid (fun W tabs => Is_any (iB i c) W tabs)
  have qC := Lib.hid (fun W tabs => Is_any (iC i) W tabs)
  have qD := Lib.hid (fun W tabs => Is_any (iD i) W tabs)
  have qE := Lib.hid (fun W tabs => Is_any (iE i) W tabs)
  have qF := Lib.hid (fun W tabs => Is_any (iF i c) W tabs)
  have yD := Lib.hid (yes_rep i)
  have yF := Lib.hid (fun h => yes_cond i c h hc.1)
  rw [no_len] at qA
  rw [no_cond i c hc.1] at qB
  rw [no_A] at qC
  rw [no_B] at qE
  generalize isB i = q at *
  generalize isB (iD i) = vD at *
  generalize isB (iF i c) = vF at *
  go_enter Tryd.func3, Tryd.ntmps3
  go_wp2_with fail
  have hSB := kb.size
  generalize w.alloc (.cells (in16 i) 26) = w0 at *
  generalize hN : w.heap.size = N at *
  refine (known_any _ tabs).mono ?_
  rintro e w1 ⟨rfl, bb⟩
  replace kI := kI.below bb kI.lt
  replace tabs := tabs.below bb
  replace kb := kb.trans (bb.mono hSB)
  replace hSB := Nat.le_trans hSB bb.size
  clear bb
  cases q
  · go_wp2_with (first | (with_reducible refine load_inG (by kernel_rfl) _ rfl N rfl (in16 i) z1 kI ?_) | ((with_reducible refine (qI.out _ tabs).mono ?_); rintro e w3 ⟨rfl, bb⟩; replace kb := kb.trans (bb.mono hSB)))
    go_ret
    exact ⟨rfl, hN ▸ kb⟩
  · replace yD := yD.out rfl
    replace yF := yF.out rfl
    subst yD
    subst yF
    go_upto_region 5 with (first | (with_reducible refine load_inG (by kernel_rfl) _ rfl N rfl (in16 i) z1 kI ?_) | ((with_reducible refine (qI.out _ tabs).mono ?_); rintro e w3 ⟨rfl, bb⟩; replace kI := kI.below bb kI.lt; replace tabs := tabs.below bb; replace kb := kb.trans (bb.mono hSB); replace hSB := Nat.le_trans hSB bb.size; clear bb))
    try simp only [Act.put]
    clear qI
    go_cut [5, 6, 7, 8, 9] from 12 to 87 (fun t5 t6 t7 t8 t9 W => ∃ p5 p6 p7 p8 p9 : Nat, t5 = .pointer (some ⟨p5, 0, none⟩) ∧ t6 = .pointer (some ⟨p6, 0, none⟩) ∧ t7 = .pointer (some ⟨p7, 0, none⟩) ∧ t8 = .pointer (some ⟨p8, 0, none⟩) ∧ t9 = .pointer (some ⟨p9, 0, none⟩) ∧
      Blk W p5 26 (in16 i) ∧ Blk W p6 26 (in16 i) ∧ Blk W p7 26 (in16 i) ∧ Blk W p8 26 (in16 i) ∧ Blk W p9 26 (in16 i) ∧ Blk W N 26 (in16 i) ∧ Below N w W ∧ N < p5 ∧ N < p6 ∧ N < p7 ∧ N < p8 ∧ N < p9 ∧
      p5 ≠ p6 ∧ p5 ≠ p7 ∧ p5 ≠ p8 ∧ p5 ≠ p9 ∧ p6 ≠ p7 ∧ p6 ≠ p8 ∧ p6 ≠ p9 ∧ p7 ≠ p8 ∧ p7 ≠ p9 ∧ p8 ≠ p9)
    case first =>
      clear qA qB qC qD qE qF tabs hSB
      have hS0 := kI.drew
      replace kb := kb.drew
      refine wp_region_held_drew (S := fun W => Blk W N 26 (in16 i)) (by kernel_rfl) hS0 (fun hH0 => ?_)
      refine wpAnyH_take (i := 0) (v := .agg (in16 i)) rfl (by kernel_rfl) (by kernel_rfl) (by kernel_rfl) (fun _ _ _ h => h) (Or.inl ⟨by kernel_rfl, ?_⟩) hH0 ?_
      · intro W hS
        exact run_load_row (by rfl) (by rfl) 26 _ (0, 0) _ hS.h Tryd.underlying26 rfl (szIn i)
      try simp only [Act.put, List.setIfInBounds_toArray, List.set_cons_zero, List.set_cons_succ, List.getElem_toArray, List.getElem_cons_succ, List.getElem_cons_zero]
      refine wpAnyH_take (i := 1) (v := .agg (in16 i)) rfl (by kernel_rfl) (by kernel_rfl) (by kernel_rfl) (fun _ _ _ h => h) (Or.inl ⟨by kernel_rfl, ?_⟩) hH0 ?_
      · intro W hS
        exact run_load_row (by rfl) (by rfl) 26 _ (0, 0) _ hS.h Tryd.underlying26 rfl (szIn i)
      try simp only [Act.put, List.setIfInBounds_toArray, List.set_cons_zero, List.set_cons_succ, List.getElem_toArray, List.getElem_cons_succ, List.getElem_cons_zero]
      refine wpAnyH_take (i := 2) (v := .agg (in16 i)) rfl (by kernel_rfl) (by kernel_rfl) (by kernel_rfl) (fun _ _ _ h => h) (Or.inl ⟨by kernel_rfl, ?_⟩) hH0 ?_
      · intro W hS
        exact run_load_row (by rfl) (by rfl) 26 _ (0, 0) _ hS.h Tryd.underlying26 rfl (szIn i)
      try simp only [Act.put, List.setIfInBounds_toArray, List.set_cons_zero, List.set_cons_succ, List.getElem_toArray, List.getElem_cons_succ, List.getElem_cons_zero]
      refine wpAnyH_take (i := 3) (v := .agg (in16 i)) rfl (by kernel_rfl) (by kernel_rfl) (by kernel_rfl) (fun _ _ _ h => h) (Or.inl ⟨by kernel_rfl, ?_⟩) hH0 ?_
      · intro W hS
        exact run_load_row (by rfl) (by rfl) 26 _ (0, 0) _ hS.h Tryd.underlying26 rfl (szIn i)
      try simp only [Act.put, List.setIfInBounds_toArray, List.set_cons_zero, List.set_cons_succ, List.getElem_toArray, List.getElem_cons_succ, List.getElem_cons_zero]
      refine wpAnyH_take (i := 4) (v := .agg (in16 i)) rfl (by kernel_rfl) (by kernel_rfl) (by kernel_rfl) (fun _ _ _ h => h) (Or.inl ⟨by kernel_rfl, ?_⟩) hH0 ?_
      · intro W hS
        exact run_load_row (by rfl) (by rfl) 26 _ (0, 0) _ hS.h Tryd.underlying26 rfl (szIn i)
      try simp only [Act.put, List.setIfInBounds_toArray, List.set_cons_zero, List.set_cons_succ, List.getElem_toArray, List.getElem_cons_succ, List.getElem_cons_zero]
      refine named_H (fun R hR => ?_)
      have H_56789 : ∀ (W : World) (p5 p6 p7 p8 p9 : Nat), Blk W N 26 (in16 i) → Below N w W → Blk W p5 26 z16 → Blk W p6 26 z16 → Blk W p7 26 z16 → Blk W p8 26 z16 → Blk W p9 26 z16 → N < p5 → N < p6 → N < p7 → N < p8 → N < p9 → p5 ≠ p6 → p5 ≠ p7 → p5 ≠ p8 → p5 ≠ p9 → p6 ≠ p7 → p6 ≠ p8 → p6 ≠ p9 → p7 ≠ p8 → p7 ≠ p9 → p8 ≠ p9 → R 5 #[true, true, true, true, true, true, true, true, true, true, false, false, false, false, false] (tmP i c N (.pointer (some ⟨p5, 0, none⟩)) (.pointer (some ⟨p6, 0, none⟩)) (.pointer (some ⟨p7, 0, none⟩)) (.pointer (some ⟨p8, 0, none⟩)) (.pointer (some ⟨p9, 0, none⟩))) W := by
        intro W p5 p6 p7 p8 p9 kI kb k5 k6 k7 k8 k9 n5 n6 n7 n8 n9 d56 d57 d58 d59 d67 d68 d69 d78 d79 d89
        rw [hR]
        refine wpAnyH_ready (rs := [10]) (by kernel_rfl) (by simp) ?_
        refine AllReadyH.cons rfl (fun K hK => ?_) AllReadyH.nil
        rw [if_pos (by kernel_rfl)]
        refine wp_store_row 26 _ _ rfl p5 (in16 i) rfl rfl 26 z16 k5.h (szIn i) rfl (one_in i) ?_
        replace k6 := k6.rowOther (M := p5) (in16 i) (Ne.symm d56)
        replace k7 := k7.rowOther (M := p5) (in16 i) (Ne.symm d57)
        replace k8 := k8.rowOther (M := p5) (in16 i) (Ne.symm d58)
        replace k9 := k9.rowOther (M := p5) (in16 i) (Ne.symm d59)
        replace kI := kI.rowOther (M := p5) (in16 i) (Nat.ne_of_lt n5)
        replace kb := below_rowNew kb (Nat.le_of_lt n5) (in16 i)
        have k5' := k5.row (in16 i)
        clear k5
        have k5 := k5'
        clear k5'
        refine hK.out _ _ kI (fun _ => ?_)
        clear hK K
        try simp only [Act.put, List.setIfInBounds_toArray, List.set_cons_zero, List.set_cons_succ, List.getElem_toArray, List.getElem_cons_succ, List.getElem_cons_zero]
        refine wpAnyH_ready (rs := [11]) (by kernel_rfl) (by simp) ?_
        refine AllReadyH.cons rfl (fun K hK => ?_) AllReadyH.nil
        rw [if_pos (by kernel_rfl)]
        refine wp_store_row 26 _ _ rfl p6 (in16 i) rfl rfl 26 z16 k6.h (szIn i) rfl (one_in i) ?_
        replace k5 := k5.rowOther (M := p6) (in16 i) d56
        replace k7 := k7.rowOther (M := p6) (in16 i) (Ne.symm d67)
        replace k8 := k8.rowOther (M := p6) (in16 i) (Ne.symm d68)
        replace k9 := k9.rowOther (M := p6) (in16 i) (Ne.symm d69)
        replace kI := kI.rowOther (M := p6) (in16 i) (Nat.ne_of_lt n6)
        replace kb := below_rowNew kb (Nat.le_of_lt n6) (in16 i)
        have k6' := k6.row (in16 i)
        clear k6
        have k6 := k6'
        clear k6'
        refine hK.out _ _ kI (fun _ => ?_)
        clear hK K
        try simp only [Act.put, List.setIfInBounds_toArray, List.set_cons_zero, List.set_cons_succ, List.getElem_toArray, List.getElem_cons_succ, List.getElem_cons_zero]
        refine wpAnyH_ready (rs := [12]) (by kernel_rfl) (by simp) ?_
        refine AllReadyH.cons rfl (fun K hK => ?_) AllReadyH.nil
        rw [if_pos (by kernel_rfl)]
        refine wp_store_row 26 _ _ rfl p7 (in16 i) rfl rfl 26 z16 k7.h (szIn i) rfl (one_in i) ?_
        replace k5 := k5.rowOther (M := p7) (in16 i) d57
        replace k6 := k6.rowOther (M := p7) (in16 i) d67
        replace k8 := k8.rowOther (M := p7) (in16 i) (Ne.symm d78)
        replace k9 := k9.rowOther (M := p7) (in16 i) (Ne.symm d79)
        replace kI := kI.rowOther (M := p7) (in16 i) (Nat.ne_of_lt n7)
        replace kb := below_rowNew kb (Nat.le_of_lt n7) (in16 i)
        have k7' := k7.row (in16 i)
        clear k7
        have k7 := k7'
        clear k7'
        refine hK.out _ _ kI (fun _ => ?_)
        clear hK K
        try simp only [Act.put, List.setIfInBounds_toArray, List.set_cons_zero, List.set_cons_succ, List.getElem_toArray, List.getElem_cons_succ, List.getElem_cons_zero]
        refine wpAnyH_ready (rs := [13]) (by kernel_rfl) (by simp) ?_
        refine AllReadyH.cons rfl (fun K hK => ?_) AllReadyH.nil
        rw [if_pos (by kernel_rfl)]
        refine wp_store_row 26 _ _ rfl p8 (in16 i) rfl rfl 26 z16 k8.h (szIn i) rfl (one_in i) ?_
        replace k5 := k5.rowOther (M := p8) (in16 i) d58
        replace k6 := k6.rowOther (M := p8) (in16 i) d68
        replace k7 := k7.rowOther (M := p8) (in16 i) d78
        replace k9 := k9.rowOther (M := p8) (in16 i) (Ne.symm d89)
        replace kI := kI.rowOther (M := p8) (in16 i) (Nat.ne_of_lt n8)
        replace kb := below_rowNew kb (Nat.le_of_lt n8) (in16 i)
        have k8' := k8.row (in16 i)
        clear k8
        have k8 := k8'
        clear k8'
        refine hK.out _ _ kI (fun _ => ?_)
        clear hK K
        try simp only [Act.put, List.setIfInBounds_toArray, List.set_cons_zero, List.set_cons_succ, List.getElem_toArray, List.getElem_cons_succ, List.getElem_cons_zero]
        refine wpAnyH_ready (rs := [14]) (by kernel_rfl) (by simp) ?_
        refine AllReadyH.cons rfl (fun K hK => ?_) AllReadyH.nil
        rw [if_pos (by kernel_rfl)]
        refine wp_store_row 26 _ _ rfl p9 (in16 i) rfl rfl 26 z16 k9.h (szIn i) rfl (one_in i) ?_
        replace k5 := k5.rowOther (M := p9) (in16 i) d59
        replace k6 := k6.rowOther (M := p9) (in16 i) d69
        replace k7 := k7.rowOther (M := p9) (in16 i) d79
        replace k8 := k8.rowOther (M := p9) (in16 i) d89
        replace kI := kI.rowOther (M := p9) (in16 i) (Nat.ne_of_lt n9)
        replace kb := below_rowNew kb (Nat.le_of_lt n9) (in16 i)
        have k9' := k9.row (in16 i)
        clear k9
        have k9 := k9'
        clear k9'
        refine hK.out _ _ kI (fun _ => ?_)
        clear hK K
        try simp only [Act.put, List.setIfInBounds_toArray, List.set_cons_zero, List.set_cons_succ, List.getElem_toArray, List.getElem_cons_succ, List.getElem_cons_zero]
        refine wpAnyH_done (by kernel_rfl) ?_ _
        go_wp2_with fail
        go_meet
        exact ⟨p5, p6, p7, p8, p9, rfl, rfl, rfl, rfl, rfl, k5, k6, k7, k8, k9, kI, kb, n5, n6, n7, n8, n9, d56, d57, d58, d59, d67, d68, d69, d78, d79, d89⟩
      have H_5678 : ∀ (W : World) (p5 p6 p7 p8 : Nat), Blk W N 26 (in16 i) → Below N w W → Blk W p5 26 z16 → Blk W p6 26 z16 → Blk W p7 26 z16 → Blk W p8 26 z16 → N < p5 → N < p6 → N < p7 → N < p8 → p5 ≠ p6 → p5 ≠ p7 → p5 ≠ p8 → p6 ≠ p7 → p6 ≠ p8 → p7 ≠ p8 → R 6 #[true, true, true, true, true, true, true, true, true, false, false, false, false, false, false] (tmP i c N (.pointer (some ⟨p5, 0, none⟩)) (.pointer (some ⟨p6, 0, none⟩)) (.pointer (some ⟨p7, 0, none⟩)) (.pointer (some ⟨p8, 0, none⟩)) undef) W := by
        intro W p5 p6 p7 p8 kI kb k5 k6 k7 k8 n5 n6 n7 n8 d56 d57 d58 d67 d68 d78
        rw [hR]
        have kN := Blk.new W 26 z16
        have hW := kI.lt
        have l5 := k5.lt
        have l6 := k6.lt
        have l7 := k7.lt
        have l8 := k8.lt
        have kI2 := kI.alloc (.cells z16 26)
        have kb2 := kb.alloc (Nat.le_of_lt hW) (.cells z16 26)
        have k52 := k5.alloc (.cells z16 26)
        have k62 := k6.alloc (.cells z16 26)
        have k72 := k7.alloc (.cells z16 26)
        have k82 := k8.alloc (.cells z16 26)
        refine wpAnyH_ready (rs := [9]) (by kernel_rfl) (by simp) ?_
        refine (AllReadyH.cons rfl (fun K hK => ?_) AllReadyH.nil)
        · have z := H_56789 (W.alloc (.cells z16 26)) p5 p6 p7 p8 W.heap.size kI2 kb2 k52 k62 k72 k82 kN n5 n6 n7 n8 hW d56 d57 d58 (Nat.ne_of_lt l5) d67 d68 (Nat.ne_of_lt l6) d78 (Nat.ne_of_lt l7) (Nat.ne_of_lt l8)
          rw [hR] at z
          clear H_56789
          go_simp
          exact hK.out _ _ kI2 (fun _ => z)
      have H_5679 : ∀ (W : World) (p5 p6 p7 p9 : Nat), Blk W N 26 (in16 i) → Below N w W → Blk W p5 26 z16 → Blk W p6 26 z16 → Blk W p7 26 z16 → Blk W p9 26 z16 → N < p5 → N < p6 → N < p7 → N < p9 → p5 ≠ p6 → p5 ≠ p7 → p5 ≠ p9 → p6 ≠ p7 → p6 ≠ p9 → p7 ≠ p9 → R 6 #[true, true, true, true, true, true, true, true, false, true, false, false, false, false, false] (tmP i c N (.pointer (some ⟨p5, 0, none⟩)) (.pointer (some ⟨p6, 0, none⟩)) (.pointer (some ⟨p7, 0, none⟩)) undef (.pointer (some ⟨p9, 0, none⟩))) W := by
        intro W p5 p6 p7 p9 kI kb k5 k6 k7 k9 n5 n6 n7 n9 d56 d57 d59 d67 d69 d79
        rw [hR]
        have kN := Blk.new W 26 z16
        have hW := kI.lt
        have l5 := k5.lt
        have l6 := k6.lt
        have l7 := k7.lt
        have l9 := k9.lt
        have kI2 := kI.alloc (.cells z16 26)
        have kb2 := kb.alloc (Nat.le_of_lt hW) (.cells z16 26)
        have k52 := k5.alloc (.cells z16 26)
        have k62 := k6.alloc (.cells z16 26)
        have k72 := k7.alloc (.cells z16 26)
        have k92 := k9.alloc (.cells z16 26)
        refine wpAnyH_ready (rs := [8]) (by kernel_rfl) (by simp) ?_
        refine (AllReadyH.cons rfl (fun K hK => ?_) AllReadyH.nil)
        · have z := H_56789 (W.alloc (.cells z16 26)) p5 p6 p7 W.heap.size p9 kI2 kb2 k52 k62 k72 kN k92 n5 n6 n7 hW n9 d56 d57 (Nat.ne_of_lt l5) d59 d67 (Nat.ne_of_lt l6) d69 (Nat.ne_of_lt l7) d79 (Nat.ne_of_gt l9)
          rw [hR] at z
          clear H_56789
          go_simp
          exact hK.out _ _ kI2 (fun _ => z)
      have H_5689 : ∀ (W : World) (p5 p6 p8 p9 : Nat), Blk W N 26 (in16 i) → Below N w W → Blk W p5 26 z16 → Blk W p6 26 z16 → Blk W p8 26 z16 → Blk W p9 26 z16 → N < p5 → N < p6 → N < p8 → N < p9 → p5 ≠ p6 → p5 ≠ p8 → p5 ≠ p9 → p6 ≠ p8 → p6 ≠ p9 → p8 ≠ p9 → R 6 #[true, true, true, true, true, true, true, false, true, true, false, false, false, false, false] (tmP i c N (.pointer (some ⟨p5, 0, none⟩)) (.pointer (some ⟨p6, 0, none⟩)) undef (.pointer (some ⟨p8, 0, none⟩)) (.pointer (some ⟨p9, 0, none⟩))) W := by
        intro W p5 p6 p8 p9 kI kb k5 k6 k8 k9 n5 n6 n8 n9 d56 d58 d59 d68 d69 d89
        rw [hR]
        have kN := Blk.new W 26 z16
        have hW := kI.lt
        have l5 := k5.lt
        have l6 := k6.lt
        have l8 := k8.lt
        have l9 := k9.lt
        have kI2 := kI.alloc (.cells z16 26)
        have kb2 := kb.alloc (Nat.le_of_lt hW) (.cells z16 26)
        have k52 := k5.alloc (.cells z16 26)
        have k62 := k6.alloc (.cells z16 26)
        have k82 := k8.alloc (.cells z16 26)
        have k92 := k9.alloc (.cells z16 26)
        refine wpAnyH_ready (rs := [7]) (by kernel_rfl) (by simp) ?_
        refine (AllReadyH.cons rfl (fun K hK => ?_) AllReadyH.nil)
        · have z := H_56789 (W.alloc (.cells z16 26)) p5 p6 W.heap.size p8 p9 kI2 kb2 k52 k62 kN k82 k92 n5 n6 hW n8 n9 d56 (Nat.ne_of_lt l5) d58 d59 (Nat.ne_of_lt l6) d68 d69 (Nat.ne_of_gt l8) (Nat.ne_of_gt l9) d89
          rw [hR] at z
          clear H_56789
          go_simp
          exact hK.out _ _ kI2 (fun _ => z)
      have H_5789 : ∀ (W : World) (p5 p7 p8 p9 : Nat), Blk W N 26 (in16 i) → Below N w W → Blk W p5 26 z16 → Blk W p7 26 z16 → Blk W p8 26 z16 → Blk W p9 26 z16 → N < p5 → N < p7 → N < p8 → N < p9 → p5 ≠ p7 → p5 ≠ p8 → p5 ≠ p9 → p7 ≠ p8 → p7 ≠ p9 → p8 ≠ p9 → R 6 #[true, true, true, true, true, true, false, true, true, true, false, false, false, false, false] (tmP i c N (.pointer (some ⟨p5, 0, none⟩)) undef (.pointer (some ⟨p7, 0, none⟩)) (.pointer (some ⟨p8, 0, none⟩)) (.pointer (some ⟨p9, 0, none⟩))) W := by
        intro W p5 p7 p8 p9 kI kb k5 k7 k8 k9 n5 n7 n8 n9 d57 d58 d59 d78 d79 d89
        rw [hR]
        have kN := Blk.new W 26 z16
        have hW := kI.lt
        have l5 := k5.lt
        have l7 := k7.lt
        have l8 := k8.lt
        have l9 := k9.lt
        have kI2 := kI.alloc (.cells z16 26)
        have kb2 := kb.alloc (Nat.le_of_lt hW) (.cells z16 26)
        have k52 := k5.alloc (.cells z16 26)
        have k72 := k7.alloc (.cells z16 26)
        have k82 := k8.alloc (.cells z16 26)
        have k92 := k9.alloc (.cells z16 26)
        refine wpAnyH_ready (rs := [6]) (by kernel_rfl) (by simp) ?_
        refine (AllReadyH.cons rfl (fun K hK => ?_) AllReadyH.nil)
        · have z := H_56789 (W.alloc (.cells z16 26)) p5 W.heap.size p7 p8 p9 kI2 kb2 k52 kN k72 k82 k92 n5 hW n7 n8 n9 (Nat.ne_of_lt l5) d57 d58 d59 (Nat.ne_of_gt l7) (Nat.ne_of_gt l8) (Nat.ne_of_gt l9) d78 d79 d89
          rw [hR] at z
          clear H_56789
          go_simp
          exact hK.out _ _ kI2 (fun _ => z)
      have H_6789 : ∀ (W : World) (p6 p7 p8 p9 : Nat), Blk W N 26 (in16 i) → Below N w W → Blk W p6 26 z16 → Blk W p7 26 z16 → Blk W p8 26 z16 → Blk W p9 26 z16 → N < p6 → N < p7 → N < p8 → N < p9 → p6 ≠ p7 → p6 ≠ p8 → p6 ≠ p9 → p7 ≠ p8 → p7 ≠ p9 → p8 ≠ p9 → R 6 #[true, true, true, true, true, false, true, true, true, true, false, false, false, false, false] (tmP i c N undef (.pointer (some ⟨p6, 0, none⟩)) (.pointer (some ⟨p7, 0, none⟩)) (.pointer (some ⟨p8, 0, none⟩)) (.pointer (some ⟨p9, 0, none⟩))) W := by
        intro W p6 p7 p8 p9 kI kb k6 k7 k8 k9 n6 n7 n8 n9 d67 d68 d69 d78 d79 d89
        rw [hR]
        have kN := Blk.new W 26 z16
        have hW := kI.lt
        have l6 := k6.lt
        have l7 := k7.lt
        have l8 := k8.lt
        have l9 := k9.lt
        have kI2 := kI.alloc (.cells z16 26)
        have kb2 := kb.alloc (Nat.le_of_lt hW) (.cells z16 26)
        have k62 := k6.alloc (.cells z16 26)
        have k72 := k7.alloc (.cells z16 26)
        have k82 := k8.alloc (.cells z16 26)
        have k92 := k9.alloc (.cells z16 26)
        refine wpAnyH_ready (rs := [5]) (by kernel_rfl) (by simp) ?_
        refine (AllReadyH.cons rfl (fun K hK => ?_) AllReadyH.nil)
        · have z := H_56789 (W.alloc (.cells z16 26)) W.heap.size p6 p7 p8 p9 kI2 kb2 kN k62 k72 k82 k92 hW n6 n7 n8 n9 (Nat.ne_of_gt l6) (Nat.ne_of_gt l7) (Nat.ne_of_gt l8) (Nat.ne_of_gt l9) d67 d68 d69 d78 d79 d89
          rw [hR] at z
          clear H_56789
          go_simp
          exact hK.out _ _ kI2 (fun _ => z)
      have H_567 : ∀ (W : World) (p5 p6 p7 : Nat), Blk W N 26 (in16 i) → Below N w W → Blk W p5 26 z16 → Blk W p6 26 z16 → Blk W p7 26 z16 → N < p5 → N < p6 → N < p7 → p5 ≠ p6 → p5 ≠ p7 → p6 ≠ p7 → R 7 #[true, true, true, true, true, true, true, true, false, false, false, false, false, false, false] (tmP i c N (.pointer (some ⟨p5, 0, none⟩)) (.pointer (some ⟨p6, 0, none⟩)) (.pointer (some ⟨p7, 0, none⟩)) undef undef) W := by
        intro W p5 p6 p7 kI kb k5 k6 k7 n5 n6 n7 d56 d57 d67
        rw [hR]
        have kN := Blk.new W 26 z16
        have hW := kI.lt
        have l5 := k5.lt
        have l6 := k6.lt
        have l7 := k7.lt
        have kI2 := kI.alloc (.cells z16 26)
        have kb2 := kb.alloc (Nat.le_of_lt hW) (.cells z16 26)
        have k52 := k5.alloc (.cells z16 26)
        have k62 := k6.alloc (.cells z16 26)
        have k72 := k7.alloc (.cells z16 26)
        refine wpAnyH_ready (rs := [8, 9]) (by kernel_rfl) (by simp) ?_
        refine (AllReadyH.cons rfl (fun K hK => ?_) (AllReadyH.cons rfl (fun K hK => ?_) AllReadyH.nil))
        · have z := H_5678 (W.alloc (.cells z16 26)) p5 p6 p7 W.heap.size kI2 kb2 k52 k62 k72 kN n5 n6 n7 hW d56 d57 (Nat.ne_of_lt l5) d67 (Nat.ne_of_lt l6) (Nat.ne_of_lt l7)
          rw [hR] at z
          clear H_56789 H_5678 H_5679 H_5689 H_5789 H_6789
          go_simp
          exact hK.out _ _ kI2 (fun _ => z)
        · have z := H_5679 (W.alloc (.cells z16 26)) p5 p6 p7 W.heap.size kI2 kb2 k52 k62 k72 kN n5 n6 n7 hW d56 d57 (Nat.ne_of_lt l5) d67 (Nat.ne_of_lt l6) (Nat.ne_of_lt l7)
          rw [hR] at z
          clear H_56789 H_5678 H_5679 H_5689 H_5789 H_6789
          go_simp
          exact hK.out _ _ kI2 (fun _ => z)
      have H_568 : ∀ (W : World) (p5 p6 p8 : Nat), Blk W N 26 (in16 i) → Below N w W → Blk W p5 26 z16 → Blk W p6 26 z16 → Blk W p8 26 z16 → N < p5 → N < p6 → N < p8 → p5 ≠ p6 → p5 ≠ p8 → p6 ≠ p8 → R 7 #[true, true, true, true, true, true, true, false, true, false, false, false, false, false, false] (tmP i c N (.pointer (some ⟨p5, 0, none⟩)) (.pointer (some ⟨p6, 0, none⟩)) undef (.pointer (some ⟨p8, 0, none⟩)) undef) W := by
        intro W p5 p6 p8 kI kb k5 k6 k8 n5 n6 n8 d56 d58 d68
        rw [hR]
        have kN := Blk.new W 26 z16
        have hW := kI.lt
        have l5 := k5.lt
        have l6 := k6.lt
        have l8 := k8.lt
        have kI2 := kI.alloc (.cells z16 26)
        have kb2 := kb.alloc (Nat.le_of_lt hW) (.cells z16 26)
        have k52 := k5.alloc (.cells z16 26)
        have k62 := k6.alloc (.cells z16 26)
        have k82 := k8.alloc (.cells z16 26)
        refine wpAnyH_ready (rs := [7, 9]) (by kernel_rfl) (by simp) ?_
        refine (AllReadyH.cons rfl (fun K hK => ?_) (AllReadyH.cons rfl (fun K hK => ?_) AllReadyH.nil))
        · have z := H_5678 (W.alloc (.cells z16 26)) p5 p6 W.heap.size p8 kI2 kb2 k52 k62 kN k82 n5 n6 hW n8 d56 (Nat.ne_of_lt l5) d58 (Nat.ne_of_lt l6) d68 (Nat.ne_of_gt l8)
          rw [hR] at z
          clear H_56789 H_5678 H_5679 H_5689 H_5789 H_6789
          go_simp
          exact hK.out _ _ kI2 (fun _ => z)
        · have z := H_5689 (W.alloc (.cells z16 26)) p5 p6 p8 W.heap.size kI2 kb2 k52 k62 k82 kN n5 n6 n8 hW d56 d58 (Nat.ne_of_lt l5) d68 (Nat.ne_of_lt l6) (Nat.ne_of_lt l8)
          rw [hR] at z
          clear H_56789 H_5678 H_5679 H_5689 H_5789 H_6789
          go_simp
          exact hK.out _ _ kI2 (fun _ => z)
      have H_569 : ∀ (W : World) (p5 p6 p9 : Nat), Blk W N 26 (in16 i) → Below N w W → Blk W p5 26 z16 → Blk W p6 26 z16 → Blk W p9 26 z16 → N < p5 → N < p6 → N < p9 → p5 ≠ p6 → p5 ≠ p9 → p6 ≠ p9 → R 7 #[true, true, true, true, true, true, true, false, false, true, false, false, false, false, false] (tmP i c N (.pointer (some ⟨p5, 0, none⟩)) (.pointer (some ⟨p6, 0, none⟩)) undef undef (.pointer (some ⟨p9, 0, none⟩))) W := by
        intro W p5 p6 p9 kI kb k5 k6 k9 n5 n6 n9 d56 d59 d69
        rw [hR]
        have kN := Blk.new W 26 z16
        have hW := kI.lt
        have l5 := k5.lt
        have l6 := k6.lt
        have l9 := k9.lt
        have kI2 := kI.alloc (.cells z16 26)
        have kb2 := kb.alloc (Nat.le_of_lt hW) (.cells z16 26)
        have k52 := k5.alloc (.cells z16 26)
        have k62 := k6.alloc (.cells z16 26)
        have k92 := k9.alloc (.cells z16 26)
        refine wpAnyH_ready (rs := [7, 8]) (by kernel_rfl) (by simp) ?_
        refine (AllReadyH.cons rfl (fun K hK => ?_) (AllReadyH.cons rfl (fun K hK => ?_) AllReadyH.nil))
        · have z := H_5679 (W.alloc (.cells z16 26)) p5 p6 W.heap.size p9 kI2 kb2 k52 k62 kN k92 n5 n6 hW n9 d56 (Nat.ne_of_lt l5) d59 (Nat.ne_of_lt l6) d69 (Nat.ne_of_gt l9)
          rw [hR] at z
          clear H_56789 H_5678 H_5679 H_5689 H_5789 H_6789
          go_simp
          exact hK.out _ _ kI2 (fun _ => z)
        · have z := H_5689 (W.alloc (.cells z16 26)) p5 p6 W.heap.size p9 kI2 kb2 k52 k62 kN k92 n5 n6 hW n9 d56 (Nat.ne_of_lt l5) d59 (Nat.ne_of_lt l6) d69 (Nat.ne_of_gt l9)
          rw [hR] at z
          clear H_56789 H_5678 H_5679 H_5689 H_5789 H_6789
          go_simp
          exact hK.out _ _ kI2 (fun _ => z)
      have H_578 : ∀ (W : World) (p5 p7 p8 : Nat), Blk W N 26 (in16 i) → Below N w W → Blk W p5 26 z16 → Blk W p7 26 z16 → Blk W p8 26 z16 → N < p5 → N < p7 → N < p8 → p5 ≠ p7 → p5 ≠ p8 → p7 ≠ p8 → R 7 #[true, true, true, true, true, true, false, true, true, false, false, false, false, false, false] (tmP i c N (.pointer (some ⟨p5, 0, none⟩)) undef (.pointer (some ⟨p7, 0, none⟩)) (.pointer (some ⟨p8, 0, none⟩)) undef) W := by
        intro W p5 p7 p8 kI kb k5 k7 k8 n5 n7 n8 d57 d58 d78
        rw [hR]
        have kN := Blk.new W 26 z16
        have hW := kI.lt
        have l5 := k5.lt
        have l7 := k7.lt
        have l8 := k8.lt
        have kI2 := kI.alloc (.cells z16 26)
        have kb2 := kb.alloc (Nat.le_of_lt hW) (.cells z16 26)
        have k52 := k5.alloc (.cells z16 26)
        have k72 := k7.alloc (.cells z16 26)
        have k82 := k8.alloc (.cells z16 26)
        refine wpAnyH_ready (rs := [6, 9]) (by kernel_rfl) (by simp) ?_
        refine (AllReadyH.cons rfl (fun K hK => ?_) (AllReadyH.cons rfl (fun K hK => ?_) AllReadyH.nil))
        · have z := H_5678 (W.alloc (.cells z16 26)) p5 W.heap.size p7 p8 kI2 kb2 k52 kN k72 k82 n5 hW n7 n8 (Nat.ne_of_lt l5) d57 d58 (Nat.ne_of_gt l7) (Nat.ne_of_gt l8) d78
          rw [hR] at z
          clear H_56789 H_5678 H_5679 H_5689 H_5789 H_6789
          go_simp
          exact hK.out _ _ kI2 (fun _ => z)
        · have z := H_5789 (W.alloc (.cells z16 26)) p5 p7 p8 W.heap.size kI2 kb2 k52 k72 k82 kN n5 n7 n8 hW d57 d58 (Nat.ne_of_lt l5) d78 (Nat.ne_of_lt l7) (Nat.ne_of_lt l8)
          rw [hR] at z
          clear H_56789 H_5678 H_5679 H_5689 H_5789 H_6789
          go_simp
          exact hK.out _ _ kI2 (fun _ => z)
      have H_579 : ∀ (W : World) (p5 p7 p9 : Nat), Blk W N 26 (in16 i) → Below N w W → Blk W p5 26 z16 → Blk W p7 26 z16 → Blk W p9 26 z16 → N < p5 → N < p7 → N < p9 → p5 ≠ p7 → p5 ≠ p9 → p7 ≠ p9 → R 7 #[true, true, true, true, true, true, false, true, false, true, false, false, false, false, false] (tmP i c N (.pointer (some ⟨p5, 0, none⟩)) undef (.pointer (some ⟨p7, 0, none⟩)) undef (.pointer (some ⟨p9, 0, none⟩))) W := by
        intro W p5 p7 p9 kI kb k5 k7 k9 n5 n7 n9 d57 d59 d79
        rw [hR]
        have kN := Blk.new W 26 z16
        have hW := kI.lt
        have l5 := k5.lt
        have l7 := k7.lt
        have l9 := k9.lt
        have kI2 := kI.alloc (.cells z16 26)
        have kb2 := kb.alloc (Nat.le_of_lt hW) (.cells z16 26)
        have k52 := k5.alloc (.cells z16 26)
        have k72 := k7.alloc (.cells z16 26)
        have k92 := k9.alloc (.cells z16 26)
        refine wpAnyH_ready (rs := [6, 8]) (by kernel_rfl) (by simp) ?_
        refine (AllReadyH.cons rfl (fun K hK => ?_) (AllReadyH.cons rfl (fun K hK => ?_) AllReadyH.nil))
        · have z := H_5679 (W.alloc (.cells z16 26)) p5 W.heap.size p7 p9 kI2 kb2 k52 kN k72 k92 n5 hW n7 n9 (Nat.ne_of_lt l5) d57 d59 (Nat.ne_of_gt l7) (Nat.ne_of_gt l9) d79
          rw [hR] at z
          clear H_56789 H_5678 H_5679 H_5689 H_5789 H_6789
          go_simp
          exact hK.out _ _ kI2 (fun _ => z)
        · have z := H_5789 (W.alloc (.cells z16 26)) p5 p7 W.heap.size p9 kI2 kb2 k52 k72 kN k92 n5 n7 hW n9 d57 (Nat.ne_of_lt l5) d59 (Nat.ne_of_lt l7) d79 (Nat.ne_of_gt l9)
          rw [hR] at z
          clear H_56789 H_5678 H_5679 H_5689 H_5789 H_6789
          go_simp
          exact hK.out _ _ kI2 (fun _ => z)
      have H_589 : ∀ (W : World) (p5 p8 p9 : Nat), Blk W N 26 (in16 i) → Below N w W → Blk W p5 26 z16 → Blk W p8 26 z16 → Blk W p9 26 z16 → N < p5 → N < p8 → N < p9 → p5 ≠ p8 → p5 ≠ p9 → p8 ≠ p9 → R 7 #[true, true, true, true, true, true, false, false, true, true, false, false, false, false, false] (tmP i c N (.pointer (some ⟨p5, 0, none⟩)) undef undef (.pointer (some ⟨p8, 0, none⟩)) (.pointer (some ⟨p9, 0, none⟩))) W := by
        intro W p5 p8 p9 kI kb k5 k8 k9 n5 n8 n9 d58 d59 d89
        rw [hR]
        have kN := Blk.new W 26 z16
        have hW := kI.lt
        have l5 := k5.lt
        have l8 := k8.lt
        have l9 := k9.lt
        have kI2 := kI.alloc (.cells z16 26)
        have kb2 := kb.alloc (Nat.le_of_lt hW) (.cells z16 26)
        have k52 := k5.alloc (.cells z16 26)
        have k82 := k8.alloc (.cells z16 26)
        have k92 := k9.alloc (.cells z16 26)
        refine wpAnyH_ready (rs := [6, 7]) (by kernel_rfl) (by simp) ?_
        refine (AllReadyH.cons rfl (fun K hK => ?_) (AllReadyH.cons rfl (fun K hK => ?_) AllReadyH.nil))
        · have z := H_5689 (W.alloc (.cells z16 26)) p5 W.heap.size p8 p9 kI2 kb2 k52 kN k82 k92 n5 hW n8 n9 (Nat.ne_of_lt l5) d58 d59 (Nat.ne_of_gt l8) (Nat.ne_of_gt l9) d89
          rw [hR] at z
          clear H_56789 H_5678 H_5679 H_5689 H_5789 H_6789
          go_simp
          exact hK.out _ _ kI2 (fun _ => z)
        · have z := H_5789 (W.alloc (.cells z16 26)) p5 W.heap.size p8 p9 kI2 kb2 k52 kN k82 k92 n5 hW n8 n9 (Nat.ne_of_lt l5) d58 d59 (Nat.ne_of_gt l8) (Nat.ne_of_gt l9) d89
          rw [hR] at z
          clear H_56789 H_5678 H_5679 H_5689 H_5789 H_6789
          go_simp
          exact hK.out _ _ kI2 (fun _ => z)
      have H_678 : ∀ (W : World) (p6 p7 p8 : Nat), Blk W N 26 (in16 i) → Below N w W → Blk W p6 26 z16 → Blk W p7 26 z16 → Blk W p8 26 z16 → N < p6 → N < p7 → N < p8 → p6 ≠ p7 → p6 ≠ p8 → p7 ≠ p8 → R 7 #[true, true, true, true, true, false, true, true, true, false, false, false, false, false, false] (tmP i c N undef (.pointer (some ⟨p6, 0, none⟩)) (.pointer (some ⟨p7, 0, none⟩)) (.pointer (some ⟨p8, 0, none⟩)) undef) W := by
        intro W p6 p7 p8 kI kb k6 k7 k8 n6 n7 n8 d67 d68 d78
        rw [hR]
        have kN := Blk.new W 26 z16
        have hW := kI.lt
        have l6 := k6.lt
        have l7 := k7.lt
        have l8 := k8.lt
        have kI2 := kI.alloc (.cells z16 26)
        have kb2 := kb.alloc (Nat.le_of_lt hW) (.cells z16 26)
        have k62 := k6.alloc (.cells z16 26)
        have k72 := k7.alloc (.cells z16 26)
        have k82 := k8.alloc (.cells z16 26)
        refine wpAnyH_ready (rs := [5, 9]) (by kernel_rfl) (by simp) ?_
        refine (AllReadyH.cons rfl (fun K hK => ?_) (AllReadyH.cons rfl (fun K hK => ?_) AllReadyH.nil))
        · have z := H_5678 (W.alloc (.cells z16 26)) W.heap.size p6 p7 p8 kI2 kb2 kN k62 k72 k82 hW n6 n7 n8 (Nat.ne_of_gt l6) (Nat.ne_of_gt l7) (Nat.ne_of_gt l8) d67 d68 d78
          rw [hR] at z
          clear H_56789 H_5678 H_5679 H_5689 H_5789 H_6789
          go_simp
          exact hK.out _ _ kI2 (fun _ => z)
        · have z := H_6789 (W.alloc (.cells z16 26)) p6 p7 p8 W.heap.size kI2 kb2 k62 k72 k82 kN n6 n7 n8 hW d67 d68 (Nat.ne_of_lt l6) d78 (Nat.ne_of_lt l7) (Nat.ne_of_lt l8)
          rw [hR] at z
          clear H_56789 H_5678 H_5679 H_5689 H_5789 H_6789
          go_simp
          exact hK.out _ _ kI2 (fun _ => z)
      have H_679 : ∀ (W : World) (p6 p7 p9 : Nat), Blk W N 26 (in16 i) → Below N w W → Blk W p6 26 z16 → Blk W p7 26 z16 → Blk W p9 26 z16 → N < p6 → N < p7 → N < p9 → p6 ≠ p7 → p6 ≠ p9 → p7 ≠ p9 → R 7 #[true, true, true, true, true, false, true, true, false, true, false, false, false, false, false] (tmP i c N undef (.pointer (some ⟨p6, 0, none⟩)) (.pointer (some ⟨p7, 0, none⟩)) undef (.pointer (some ⟨p9, 0, none⟩))) W := by
        intro W p6 p7 p9 kI kb k6 k7 k9 n6 n7 n9 d67 d69 d79
        rw [hR]
        have kN := Blk.new W 26 z16
        have hW := kI.lt
        have l6 := k6.lt
        have l7 := k7.lt
        have l9 := k9.lt
        have kI2 := kI.alloc (.cells z16 26)
        have kb2 := kb.alloc (Nat.le_of_lt hW) (.cells z16 26)
        have k62 := k6.alloc (.cells z16 26)
        have k72 := k7.alloc (.cells z16 26)
        have k92 := k9.alloc (.cells z16 26)
        refine wpAnyH_ready (rs := [5, 8]) (by kernel_rfl) (by simp) ?_
        refine (AllReadyH.cons rfl (fun K hK => ?_) (AllReadyH.cons rfl (fun K hK => ?_) AllReadyH.nil))
        · have z := H_5679 (W.alloc (.cells z16 26)) W.heap.size p6 p7 p9 kI2 kb2 kN k62 k72 k92 hW n6 n7 n9 (Nat.ne_of_gt l6) (Nat.ne_of_gt l7) (Nat.ne_of_gt l9) d67 d69 d79
          rw [hR] at z
          clear H_56789 H_5678 H_5679 H_5689 H_5789 H_6789
          go_simp
          exact hK.out _ _ kI2 (fun _ => z)
        · have z := H_6789 (W.alloc (.cells z16 26)) p6 p7 W.heap.size p9 kI2 kb2 k62 k72 kN k92 n6 n7 hW n9 d67 (Nat.ne_of_lt l6) d69 (Nat.ne_of_lt l7) d79 (Nat.ne_of_gt l9)
          rw [hR] at z
          clear H_56789 H_5678 H_5679 H_5689 H_5789 H_6789
          go_simp
          exact hK.out _ _ kI2 (fun _ => z)
      have H_689 : ∀ (W : World) (p6 p8 p9 : Nat), Blk W N 26 (in16 i) → Below N w W → Blk W p6 26 z16 → Blk W p8 26 z16 → Blk W p9 26 z16 → N < p6 → N < p8 → N < p9 → p6 ≠ p8 → p6 ≠ p9 → p8 ≠ p9 → R 7 #[true, true, true, true, true, false, true, false, true, true, false, false, false, false, false] (tmP i c N undef (.pointer (some ⟨p6, 0, none⟩)) undef (.pointer (some ⟨p8, 0, none⟩)) (.pointer (some ⟨p9, 0, none⟩))) W := by
        intro W p6 p8 p9 kI kb k6 k8 k9 n6 n8 n9 d68 d69 d89
        rw [hR]
        have kN := Blk.new W 26 z16
        have hW := kI.lt
        have l6 := k6.lt
        have l8 := k8.lt
        have l9 := k9.lt
        have kI2 := kI.alloc (.cells z16 26)
        have kb2 := kb.alloc (Nat.le_of_lt hW) (.cells z16 26)
        have k62 := k6.alloc (.cells z16 26)
        have k82 := k8.alloc (.cells z16 26)
        have k92 := k9.alloc (.cells z16 26)
        refine wpAnyH_ready (rs := [5, 7]) (by kernel_rfl) (by simp) ?_
        refine (AllReadyH.cons rfl (fun K hK => ?_) (AllReadyH.cons rfl (fun K hK => ?_) AllReadyH.nil))
        · have z := H_5689 (W.alloc (.cells z16 26)) W.heap.size p6 p8 p9 kI2 kb2 kN k62 k82 k92 hW n6 n8 n9 (Nat.ne_of_gt l6) (Nat.ne_of_gt l8) (Nat.ne_of_gt l9) d68 d69 d89
          rw [hR] at z
          clear H_56789 H_5678 H_5679 H_5689 H_5789 H_6789
          go_simp
          exact hK.out _ _ kI2 (fun _ => z)
        · have z := H_6789 (W.alloc (.cells z16 26)) p6 W.heap.size p8 p9 kI2 kb2 k62 kN k82 k92 n6 hW n8 n9 (Nat.ne_of_lt l6) d68 d69 (Nat.ne_of_gt l8) (Nat.ne_of_gt l9) d89
          rw [hR] at z
          clear H_56789 H_5678 H_5679 H_5689 H_5789 H_6789
          go_simp
          exact hK.out _ _ kI2 (fun _ => z)
      have H_789 : ∀ (W : World) (p7 p8 p9 : Nat), Blk W N 26 (in16 i) → Below N w W → Blk W p7 26 z16 → Blk W p8 26 z16 → Blk W p9 26 z16 → N < p7 → N < p8 → N < p9 → p7 ≠ p8 → p7 ≠ p9 → p8 ≠ p9 → R 7 #[true, true, true, true, true, false, false, true, true, true, false, false, false, false, false] (tmP i c N undef undef (.pointer (some ⟨p7, 0, none⟩)) (.pointer (some ⟨p8, 0, none⟩)) (.pointer (some ⟨p9, 0, none⟩))) W := by
        intro W p7 p8 p9 kI kb k7 k8 k9 n7 n8 n9 d78 d79 d89
        rw [hR]
        have kN := Blk.new W 26 z16
        have hW := kI.lt
        have l7 := k7.lt
        have l8 := k8.lt
        have l9 := k9.lt
        have kI2 := kI.alloc (.cells z16 26)
        have kb2 := kb.alloc (Nat.le_of_lt hW) (.cells z16 26)
        have k72 := k7.alloc (.cells z16 26)
        have k82 := k8.alloc (.cells z16 26)
        have k92 := k9.alloc (.cells z16 26)
        refine wpAnyH_ready (rs := [5, 6]) (by kernel_rfl) (by simp) ?_
        refine (AllReadyH.cons rfl (fun K hK => ?_) (AllReadyH.cons rfl (fun K hK => ?_) AllReadyH.nil))
        · have z := H_5789 (W.alloc (.cells z16 26)) W.heap.size p7 p8 p9 kI2 kb2 kN k72 k82 k92 hW n7 n8 n9 (Nat.ne_of_gt l7) (Nat.ne_of_gt l8) (Nat.ne_of_gt l9) d78 d79 d89
          rw [hR] at z
          clear H_56789 H_5678 H_5679 H_5689 H_5789 H_6789
          go_simp
          exact hK.out _ _ kI2 (fun _ => z)
        · have z := H_6789 (W.alloc (.cells z16 26)) W.heap.size p7 p8 p9 kI2 kb2 kN k72 k82 k92 hW n7 n8 n9 (Nat.ne_of_gt l7) (Nat.ne_of_gt l8) (Nat.ne_of_gt l9) d78 d79 d89
          rw [hR] at z
          clear H_56789 H_5678 H_5679 H_5689 H_5789 H_6789
          go_simp
          exact hK.out _ _ kI2 (fun _ => z)
      have H_56 : ∀ (W : World) (p5 p6 : Nat), Blk W N 26 (in16 i) → Below N w W → Blk W p5 26 z16 → Blk W p6 26 z16 → N < p5 → N < p6 → p5 ≠ p6 → R 8 #[true, true, true, true, true, true, true, false, false, false, false, false, false, false, false] (tmP i c N (.pointer (some ⟨p5, 0, none⟩)) (.pointer (some ⟨p6, 0, none⟩)) undef undef undef) W := by
        intro W p5 p6 kI kb k5 k6 n5 n6 d56
        rw [hR]
        have kN := Blk.new W 26 z16
        have hW := kI.lt
        have l5 := k5.lt
        have l6 := k6.lt
        have kI2 := kI.alloc (.cells z16 26)
        have kb2 := kb.alloc (Nat.le_of_lt hW) (.cells z16 26)
        have k52 := k5.alloc (.cells z16 26)
        have k62 := k6.alloc (.cells z16 26)
        refine wpAnyH_ready (rs := [7, 8, 9]) (by kernel_rfl) (by simp) ?_
        refine (AllReadyH.cons rfl (fun K hK => ?_) (AllReadyH.cons rfl (fun K hK => ?_) (AllReadyH.cons rfl (fun K hK => ?_) AllReadyH.nil)))
        · have z := H_567 (W.alloc (.cells z16 26)) p5 p6 W.heap.size kI2 kb2 k52 k62 kN n5 n6 hW d56 (Nat.ne_of_lt l5) (Nat.ne_of_lt l6)
          rw [hR] at z
          clear H_56789 H_5678 H_5679 H_5689 H_5789 H_6789 H_567 H_568 H_569 H_578 H_579 H_589 H_678 H_679 H_689 H_789
          go_simp
          exact hK.out _ _ kI2 (fun _ => z)
        · have z := H_568 (W.alloc (.cells z16 26)) p5 p6 W.heap.size kI2 kb2 k52 k62 kN n5 n6 hW d56 (Nat.ne_of_lt l5) (Nat.ne_of_lt l6)
          rw [hR] at z
          clear H_56789 H_5678 H_5679 H_5689 H_5789 H_6789 H_567 H_568 H_569 H_578 H_579 H_589 H_678 H_679 H_689 H_789
          go_simp
          exact hK.out _ _ kI2 (fun _ => z)
        · have z := H_569 (W.alloc (.cells z16 26)) p5 p6 W.heap.size kI2 kb2 k52 k62 kN n5 n6 hW d56 (Nat.ne_of_lt l5) (Nat.ne_of_lt l6)
          rw [hR] at z
          clear H_56789 H_5678 H_5679 H_5689 H_5789 H_6789 H_567 H_568 H_569 H_578 H_579 H_589 H_678 H_679 H_689 H_789
          go_simp
          exact hK.out _ _ kI2 (fun _ => z)
      have H_57 : ∀ (W : World) (p5 p7 : Nat), Blk W N 26 (in16 i) → Below N w W → Blk W p5 26 z16 → Blk W p7 26 z16 → N < p5 → N < p7 → p5 ≠ p7 → R 8 #[true, true, true, true, true, true, false, true, false, false, false, false, false, false, false] (tmP i c N (.pointer (some ⟨p5, 0, none⟩)) undef (.pointer (some ⟨p7, 0, none⟩)) undef undef) W := by
        intro W p5 p7 kI kb k5 k7 n5 n7 d57
        rw [hR]
        have kN := Blk.new W 26 z16
        have hW := kI.lt
        have l5 := k5.lt
        have l7 := k7.lt
        have kI2 := kI.alloc (.cells z16 26)
        have kb2 := kb.alloc (Nat.le_of_lt hW) (.cells z16 26)
        have k52 := k5.alloc (.cells z16 26)
        have k72 := k7.alloc (.cells z16 26)
        refine wpAnyH_ready (rs := [6, 8, 9]) (by kernel_rfl) (by simp) ?_
        refine (AllReadyH.cons rfl (fun K hK => ?_) (AllReadyH.cons rfl (fun K hK => ?_) (AllReadyH.cons rfl (fun K hK => ?_) AllReadyH.nil)))
        · have z := H_567 (W.alloc (.cells z16 26)) p5 W.heap.size p7 kI2 kb2 k52 kN k72 n5 hW n7 (Nat.ne_of_lt l5) d57 (Nat.ne_of_gt l7)
          rw [hR] at z
          clear H_56789 H_5678 H_5679 H_5689 H_5789 H_6789 H_567 H_568 H_569 H_578 H_579 H_589 H_678 H_679 H_689 H_789
          go_simp
          exact hK.out _ _ kI2 (fun _ => z)
        · have z := H_578 (W.alloc (.cells z16 26)) p5 p7 W.heap.size kI2 kb2 k52 k72 kN n5 n7 hW d57 (Nat.ne_of_lt l5) (Nat.ne_of_lt l7)
          rw [hR] at z
          clear H_56789 H_5678 H_5679 H_5689 H_5789 H_6789 H_567 H_568 H_569 H_578 H_579 H_589 H_678 H_679 H_689 H_789
          go_simp
          exact hK.out _ _ kI2 (fun _ => z)
        · have z := H_579 (W.alloc (.cells z16 26)) p5 p7 W.heap.size kI2 kb2 k52 k72 kN n5 n7 hW d57 (Nat.ne_of_lt l5) (Nat.ne_of_lt l7)
          rw [hR] at z
          clear H_56789 H_5678 H_5679 H_5689 H_5789 H_6789 H_567 H_568 H_569 H_578 H_579 H_589 H_678 H_679 H_689 H_789
          go_simp
          exact hK.out _ _ kI2 (fun _ => z)
      have H_58 : ∀ (W : World) (p5 p8 : Nat), Blk W N 26 (in16 i) → Below N w W → Blk W p5 26 z16 → Blk W p8 26 z16 → N < p5 → N < p8 → p5 ≠ p8 → R 8 #[true, true, true, true, true, true, false, false, true, false, false, false, false, false, false] (tmP i c N (.pointer (some ⟨p5, 0, none⟩)) undef undef (.pointer (some ⟨p8, 0, none⟩)) undef) W := by
        intro W p5 p8 kI kb k5 k8 n5 n8 d58
        rw [hR]
        have kN := Blk.new W 26 z16
        have hW := kI.lt
        have l5 := k5.lt
        have l8 := k8.lt
        have kI2 := kI.alloc (.cells z16 26)
        have kb2 := kb.alloc (Nat.le_of_lt hW) (.cells z16 26)
        have k52 := k5.alloc (.cells z16 26)
        have k82 := k8.alloc (.cells z16 26)
        refine wpAnyH_ready (rs := [6, 7, 9]) (by kernel_rfl) (by simp) ?_
        refine (AllReadyH.cons rfl (fun K hK => ?_) (AllReadyH.cons rfl (fun K hK => ?_) (AllReadyH.cons rfl (fun K hK => ?_) AllReadyH.nil)))
        · have z := H_568 (W.alloc (.cells z16 26)) p5 W.heap.size p8 kI2 kb2 k52 kN k82 n5 hW n8 (Nat.ne_of_lt l5) d58 (Nat.ne_of_gt l8)
          rw [hR] at z
          clear H_56789 H_5678 H_5679 H_5689 H_5789 H_6789 H_567 H_568 H_569 H_578 H_579 H_589 H_678 H_679 H_689 H_789
          go_simp
          exact hK.out _ _ kI2 (fun _ => z)
        · have z := H_578 (W.alloc (.cells z16 26)) p5 W.heap.size p8 kI2 kb2 k52 kN k82 n5 hW n8 (Nat.ne_of_lt l5) d58 (Nat.ne_of_gt l8)
          rw [hR] at z
          clear H_56789 H_5678 H_5679 H_5689 H_5789 H_6789 H_567 H_568 H_569 H_578 H_579 H_589 H_678 H_679 H_689 H_789
          go_simp
          exact hK.out _ _ kI2 (fun _ => z)
        · have z := H_589 (W.alloc (.cells z16 26)) p5 p8 W.heap.size kI2 kb2 k52 k82 kN n5 n8 hW d58 (Nat.ne_of_lt l5) (Nat.ne_of_lt l8)
          rw [hR] at z
          clear H_56789 H_5678 H_5679 H_5689 H_5789 H_6789 H_567 H_568 H_569 H_578 H_579 H_589 H_678 H_679 H_689 H_789
          go_simp
          exact hK.out _ _ kI2 (fun _ => z)
      have H_59 : ∀ (W : World) (p5 p9 : Nat), Blk W N 26 (in16 i) → Below N w W → Blk W p5 26 z16 → Blk W p9 26 z16 → N < p5 → N < p9 → p5 ≠ p9 → R 8 #[true, true, true, true, true, true, false, false, false, true, false, false, false, false, false] (tmP i c N (.pointer (some ⟨p5, 0, none⟩)) undef undef undef (.pointer (some ⟨p9, 0, none⟩))) W := by
        intro W p5 p9 kI kb k5 k9 n5 n9 d59
        rw [hR]
        have kN := Blk.new W 26 z16
        have hW := kI.lt
        have l5 := k5.lt
        have l9 := k9.lt
        have kI2 := kI.alloc (.cells z16 26)
        have kb2 := kb.alloc (Nat.le_of_lt hW) (.cells z16 26)
        have k52 := k5.alloc (.cells z16 26)
        have k92 := k9.alloc (.cells z16 26)
        refine wpAnyH_ready (rs := [6, 7, 8]) (by kernel_rfl) (by simp) ?_
        refine (AllReadyH.cons rfl (fun K hK => ?_) (AllReadyH.cons rfl (fun K hK => ?_) (AllReadyH.cons rfl (fun K hK => ?_) AllReadyH.nil)))
        · have z := H_569 (W.alloc (.cells z16 26)) p5 W.heap.size p9 kI2 kb2 k52 kN k92 n5 hW n9 (Nat.ne_of_lt l5) d59 (Nat.ne_of_gt l9)
          rw [hR] at z
          clear H_56789 H_5678 H_5679 H_5689 H_5789 H_6789 H_567 H_568 H_569 H_578 H_579 H_589 H_678 H_679 H_689 H_789
          go_simp
          exact hK.out _ _ kI2 (fun _ => z)
        · have z := H_579 (W.alloc (.cells z16 26)) p5 W.heap.size p9 kI2 kb2 k52 kN k92 n5 hW n9 (Nat.ne_of_lt l5) d59 (Nat.ne_of_gt l9)
          rw [hR] at z
          clear H_56789 H_5678 H_5679 H_5689 H_5789 H_6789 H_567 H_568 H_569 H_578 H_579 H_589 H_678 H_679 H_689 H_789
          go_simp
          exact hK.out _ _ kI2 (fun _ => z)
        · have z := H_589 (W.alloc (.cells z16 26)) p5 W.heap.size p9 kI2 kb2 k52 kN k92 n5 hW n9 (Nat.ne_of_lt l5) d59 (Nat.ne_of_gt l9)
          rw [hR] at z
          clear H_56789 H_5678 H_5679 H_5689 H_5789 H_6789 H_567 H_568 H_569 H_578 H_579 H_589 H_678 H_679 H_689 H_789
          go_simp
          exact hK.out _ _ kI2 (fun _ => z)
      have H_67 : ∀ (W : World) (p6 p7 : Nat), Blk W N 26 (in16 i) → Below N w W → Blk W p6 26 z16 → Blk W p7 26 z16 → N < p6 → N < p7 → p6 ≠ p7 → R 8 #[true, true, true, true, true, false, true, true, false, false, false, false, false, false, false] (tmP i c N undef (.pointer (some ⟨p6, 0, none⟩)) (.pointer (some ⟨p7, 0, none⟩)) undef undef) W := by
        intro W p6 p7 kI kb k6 k7 n6 n7 d67
        rw [hR]
        have kN := Blk.new W 26 z16
        have hW := kI.lt
        have l6 := k6.lt
        have l7 := k7.lt
        have kI2 := kI.alloc (.cells z16 26)
        have kb2 := kb.alloc (Nat.le_of_lt hW) (.cells z16 26)
        have k62 := k6.alloc (.cells z16 26)
        have k72 := k7.alloc (.cells z16 26)
        refine wpAnyH_ready (rs := [5, 8, 9]) (by kernel_rfl) (by simp) ?_
        refine (AllReadyH.cons rfl (fun K hK => ?_) (AllReadyH.cons rfl (fun K hK => ?_) (AllReadyH.cons rfl (fun K hK => ?_) AllReadyH.nil)))
        · have z := H_567 (W.alloc (.cells z16 26)) W.heap.size p6 p7 kI2 kb2 kN k62 k72 hW n6 n7 (Nat.ne_of_gt l6) (Nat.ne_of_gt l7) d67
          rw [hR] at z
          clear H_56789 H_5678 H_5679 H_5689 H_5789 H_6789 H_567 H_568 H_569 H_578 H_579 H_589 H_678 H_679 H_689 H_789
          go_simp
          exact hK.out _ _ kI2 (fun _ => z)
        · have z := H_678 (W.alloc (.cells z16 26)) p6 p7 W.heap.size kI2 kb2 k62 k72 kN n6 n7 hW d67 (Nat.ne_of_lt l6) (Nat.ne_of_lt l7)
          rw [hR] at z
          clear H_56789 H_5678 H_5679 H_5689 H_5789 H_6789 H_567 H_568 H_569 H_578 H_579 H_589 H_678 H_679 H_689 H_789
          go_simp
          exact hK.out _ _ kI2 (fun _ => z)
        · have z := H_679 (W.alloc (.cells z16 26)) p6 p7 W.heap.size kI2 kb2 k62 k72 kN n6 n7 hW d67 (Nat.ne_of_lt l6) (Nat.ne_of_lt l7)
          rw [hR] at z
          clear H_56789 H_5678 H_5679 H_5689 H_5789 H_6789 H_567 H_568 H_569 H_578 H_579 H_589 H_678 H_679 H_689 H_789
          go_simp
          exact hK.out _ _ kI2 (fun _ => z)
      have H_68 : ∀ (W : World) (p6 p8 : Nat), Blk W N 26 (in16 i) → Below N w W → Blk W p6 26 z16 → Blk W p8 26 z16 → N < p6 → N < p8 → p6 ≠ p8 → R 8 #[true, true, true, true, true, false, true, false, true, false, false, false, false, false, false] (tmP i c N undef (.pointer (some ⟨p6, 0, none⟩)) undef (.pointer (some ⟨p8, 0, none⟩)) undef) W := by
        intro W p6 p8 kI kb k6 k8 n6 n8 d68
        rw [hR]
        have kN := Blk.new W 26 z16
        have hW := kI.lt
        have l6 := k6.lt
        have l8 := k8.lt
        have kI2 := kI.alloc (.cells z16 26)
        have kb2 := kb.alloc (Nat.le_of_lt hW) (.cells z16 26)
        have k62 := k6.alloc (.cells z16 26)
        have k82 := k8.alloc (.cells z16 26)
        refine wpAnyH_ready (rs := [5, 7, 9]) (by kernel_rfl) (by simp) ?_
        refine (AllReadyH.cons rfl (fun K hK => ?_) (AllReadyH.cons rfl (fun K hK => ?_) (AllReadyH.cons rfl (fun K hK => ?_) AllReadyH.nil)))
        · have z := H_568 (W.alloc (.cells z16 26)) W.heap.size p6 p8 kI2 kb2 kN k62 k82 hW n6 n8 (Nat.ne_of_gt l6) (Nat.ne_of_gt l8) d68
          rw [hR] at z
          clear H_56789 H_5678 H_5679 H_5689 H_5789 H_6789 H_567 H_568 H_569 H_578 H_579 H_589 H_678 H_679 H_689 H_789
          go_simp
          exact hK.out _ _ kI2 (fun _ => z)
        · have z := H_678 (W.alloc (.cells z16 26)) p6 W.heap.size p8 kI2 kb2 k62 kN k82 n6 hW n8 (Nat.ne_of_lt l6) d68 (Nat.ne_of_gt l8)
          rw [hR] at z
          clear H_56789 H_5678 H_5679 H_5689 H_5789 H_6789 H_567 H_568 H_569 H_578 H_579 H_589 H_678 H_679 H_689 H_789
          go_simp
          exact hK.out _ _ kI2 (fun _ => z)
        · have z := H_689 (W.alloc (.cells z16 26)) p6 p8 W.heap.size kI2 kb2 k62 k82 kN n6 n8 hW d68 (Nat.ne_of_lt l6) (Nat.ne_of_lt l8)
          rw [hR] at z
          clear H_56789 H_5678 H_5679 H_5689 H_5789 H_6789 H_567 H_568 H_569 H_578 H_579 H_589 H_678 H_679 H_689 H_789
          go_simp
          exact hK.out _ _ kI2 (fun _ => z)
      have H_69 : ∀ (W : World) (p6 p9 : Nat), Blk W N 26 (in16 i) → Below N w W → Blk W p6 26 z16 → Blk W p9 26 z16 → N < p6 → N < p9 → p6 ≠ p9 → R 8 #[true, true, true, true, true, false, true, false, false, true, false, false, false, false, false] (tmP i c N undef (.pointer (some ⟨p6, 0, none⟩)) undef undef (.pointer (some ⟨p9, 0, none⟩))) W := by
        intro W p6 p9 kI kb k6 k9 n6 n9 d69
        rw [hR]
        have kN := Blk.new W 26 z16
        have hW := kI.lt
        have l6 := k6.lt
        have l9 := k9.lt
        have kI2 := kI.alloc (.cells z16 26)
        have kb2 := kb.alloc (Nat.le_of_lt hW) (.cells z16 26)
        have k62 := k6.alloc (.cells z16 26)
        have k92 := k9.alloc (.cells z16 26)
        refine wpAnyH_ready (rs := [5, 7, 8]) (by kernel_rfl) (by simp) ?_
        refine (AllReadyH.cons rfl (fun K hK => ?_) (AllReadyH.cons rfl (fun K hK => ?_) (AllReadyH.cons rfl (fun K hK => ?_) AllReadyH.nil)))
        · have z := H_569 (W.alloc (.cells z16 26)) W.heap.size p6 p9 kI2 kb2 kN k62 k92 hW n6 n9 (Nat.ne_of_gt l6) (Nat.ne_of_gt l9) d69
          rw [hR] at z
          clear H_56789 H_5678 H_5679 H_5689 H_5789 H_6789 H_567 H_568 H_569 H_578 H_579 H_589 H_678 H_679 H_689 H_789
          go_simp
          exact hK.out _ _ kI2 (fun _ => z)
        · have z := H_679 (W.alloc (.cells z16 26)) p6 W.heap.size p9 kI2 kb2 k62 kN k92 n6 hW n9 (Nat.ne_of_lt l6) d69 (Nat.ne_of_gt l9)
          rw [hR] at z
          clear H_56789 H_5678 H_5679 H_5689 H_5789 H_6789 H_567 H_568 H_569 H_578 H_579 H_589 H_678 H_679 H_689 H_789
          go_simp
          exact hK.out _ _ kI2 (fun _ => z)
        · have z := H_689 (W.alloc (.cells z16 26)) p6 W.heap.size p9 kI2 kb2 k62 kN k92 n6 hW n9 (Nat.ne_of_lt l6) d69 (Nat.ne_of_gt l9)
          rw [hR] at z
          clear H_56789 H_5678 H_5679 H_5689 H_5789 H_6789 H_567 H_568 H_569 H_578 H_579 H_589 H_678 H_679 H_689 H_789
          go_simp
          exact hK.out _ _ kI2 (fun _ => z)
      have H_78 : ∀ (W : World) (p7 p8 : Nat), Blk W N 26 (in16 i) → Below N w W → Blk W p7 26 z16 → Blk W p8 26 z16 → N < p7 → N < p8 → p7 ≠ p8 → R 8 #[true, true, true, true, true, false, false, true, true, false, false, false, false, false, false] (tmP i c N undef undef (.pointer (some ⟨p7, 0, none⟩)) (.pointer (some ⟨p8, 0, none⟩)) undef) W := by
        intro W p7 p8 kI kb k7 k8 n7 n8 d78
        rw [hR]
        have kN := Blk.new W 26 z16
        have hW := kI.lt
        have l7 := k7.lt
        have l8 := k8.lt
        have kI2 := kI.alloc (.cells z16 26)
        have kb2 := kb.alloc (Nat.le_of_lt hW) (.cells z16 26)
        have k72 := k7.alloc (.cells z16 26)
        have k82 := k8.alloc (.cells z16 26)
        refine wpAnyH_ready (rs := [5, 6, 9]) (by kernel_rfl) (by simp) ?_
        refine (AllReadyH.cons rfl (fun K hK => ?_) (AllReadyH.cons rfl (fun K hK => ?_) (AllReadyH.cons rfl (fun K hK => ?_) AllReadyH.nil)))
        · have z := H_578 (W.alloc (.cells z16 26)) W.heap.size p7 p8 kI2 kb2 kN k72 k82 hW n7 n8 (Nat.ne_of_gt l7) (Nat.ne_of_gt l8) d78
          rw [hR] at z
          clear H_56789 H_5678 H_5679 H_5689 H_5789 H_6789 H_567 H_568 H_569 H_578 H_579 H_589 H_678 H_679 H_689 H_789
          go_simp
          exact hK.out _ _ kI2 (fun _ => z)
        · have z := H_678 (W.alloc (.cells z16 26)) W.heap.size p7 p8 kI2 kb2 kN k72 k82 hW n7 n8 (Nat.ne_of_gt l7) (Nat.ne_of_gt l8) d78
          rw [hR] at z
          clear H_56789 H_5678 H_5679 H_5689 H_5789 H_6789 H_567 H_568 H_569 H_578 H_579 H_589 H_678 H_679 H_689 H_789
          go_simp
          exact hK.out _ _ kI2 (fun _ => z)
        · have z := H_789 (W.alloc (.cells z16 26)) p7 p8 W.heap.size kI2 kb2 k72 k82 kN n7 n8 hW d78 (Nat.ne_of_lt l7) (Nat.ne_of_lt l8)
          rw [hR] at z
          clear H_56789 H_5678 H_5679 H_5689 H_5789 H_6789 H_567 H_568 H_569 H_578 H_579 H_589 H_678 H_679 H_689 H_789
          go_simp
          exact hK.out _ _ kI2 (fun _ => z)
      have H_79 : ∀ (W : World) (p7 p9 : Nat), Blk W N 26 (in16 i) → Below N w W → Blk W p7 26 z16 → Blk W p9 26 z16 → N < p7 → N < p9 → p7 ≠ p9 → R 8 #[true, true, true, true, true, false, false, true, false, true, false, false, false, false, false] (tmP i c N undef undef (.pointer (some ⟨p7, 0, none⟩)) undef (.pointer (some ⟨p9, 0, none⟩))) W := by
        intro W p7 p9 kI kb k7 k9 n7 n9 d79
        rw [hR]
        have kN := Blk.new W 26 z16
        have hW := kI.lt
        have l7 := k7.lt
        have l9 := k9.lt
        have kI2 := kI.alloc (.cells z16 26)
        have kb2 := kb.alloc (Nat.le_of_lt hW) (.cells z16 26)
        have k72 := k7.alloc (.cells z16 26)
        have k92 := k9.alloc (.cells z16 26)
        refine wpAnyH_ready (rs := [5, 6, 8]) (by kernel_rfl) (by simp) ?_
        refine (AllReadyH.cons rfl (fun K hK => ?_) (AllReadyH.cons rfl (fun K hK => ?_) (AllReadyH.cons rfl (fun K hK => ?_) AllReadyH.nil)))
        · have z := H_579 (W.alloc (.cells z16 26)) W.heap.size p7 p9 kI2 kb2 kN k72 k92 hW n7 n9 (Nat.ne_of_gt l7) (Nat.ne_of_gt l9) d79
          rw [hR] at z
          clear H_56789 H_5678 H_5679 H_5689 H_5789 H_6789 H_567 H_568 H_569 H_578 H_579 H_589 H_678 H_679 H_689 H_789
          go_simp
          exact hK.out _ _ kI2 (fun _ => z)
        · have z := H_679 (W.alloc (.cells z16 26)) W.heap.size p7 p9 kI2 kb2 kN k72 k92 hW n7 n9 (Nat.ne_of_gt l7) (Nat.ne_of_gt l9) d79
          rw [hR] at z
          clear H_56789 H_5678 H_5679 H_5689 H_5789 H_6789 H_567 H_568 H_569 H_578 H_579 H_589 H_678 H_679 H_689 H_789
          go_simp
          exact hK.out _ _ kI2 (fun _ => z)
        · have z := H_789 (W.alloc (.cells z16 26)) p7 W.heap.size p9 kI2 kb2 k72 kN k92 n7 hW n9 (Nat.ne_of_lt l7) d79 (Nat.ne_of_gt l9)
          rw [hR] at z
          clear H_56789 H_5678 H_5679 H_5689 H_5789 H_6789 H_567 H_568 H_569 H_578 H_579 H_589 H_678 H_679 H_689 H_789
          go_simp
          exact hK.out _ _ kI2 (fun _ => z)
      have H_89 : ∀ (W : World) (p8 p9 : Nat), Blk W N 26 (in16 i) → Below N w W → Blk W p8 26 z16 → Blk W p9 26 z16 → N < p8 → N < p9 → p8 ≠ p9 → R 8 #[true, true, true, true, true, false, false, false, true, true, false, false, false, false, false] (tmP i c N undef undef undef (.pointer (some ⟨p8, 0, none⟩)) (.pointer (some ⟨p9, 0, none⟩))) W := by
        intro W p8 p9 kI kb k8 k9 n8 n9 d89
        rw [hR]
        have kN := Blk.new W 26 z16
        have hW := kI.lt
        have l8 := k8.lt
        have l9 := k9.lt
        have kI2 := kI.alloc (.cells z16 26)
        have kb2 := kb.alloc (Nat.le_of_lt hW) (.cells z16 26)
        have k82 := k8.alloc (.cells z16 26)
        have k92 := k9.alloc (.cells z16 26)
        refine wpAnyH_ready (rs := [5, 6, 7]) (by kernel_rfl) (by simp) ?_
        refine (AllReadyH.cons rfl (fun K hK => ?_) (AllReadyH.cons rfl (fun K hK => ?_) (AllReadyH.cons rfl (fun K hK => ?_) AllReadyH.nil)))
        · have z := H_589 (W.alloc (.cells z16 26)) W.heap.size p8 p9 kI2 kb2 kN k82 k92 hW n8 n9 (Nat.ne_of_gt l8) (Nat.ne_of_gt l9) d89
          rw [hR] at z
          clear H_56789 H_5678 H_5679 H_5689 H_5789 H_6789 H_567 H_568 H_569 H_578 H_579 H_589 H_678 H_679 H_689 H_789
          go_simp
          exact hK.out _ _ kI2 (fun _ => z)
        · have z := H_689 (W.alloc (.cells z16 26)) W.heap.size p8 p9 kI2 kb2 kN k82 k92 hW n8 n9 (Nat.ne_of_gt l8) (Nat.ne_of_gt l9) d89
          rw [hR] at z
          clear H_56789 H_5678 H_5679 H_5689 H_5789 H_6789 H_567 H_568 H_569 H_578 H_579 H_589 H_678 H_679 H_689 H_789
          go_simp
          exact hK.out _ _ kI2 (fun _ => z)
        · have z := H_789 (W.alloc (.cells z16 26)) W.heap.size p8 p9 kI2 kb2 kN k82 k92 hW n8 n9 (Nat.ne_of_gt l8) (Nat.ne_of_gt l9) d89
          rw [hR] at z
          clear H_56789 H_5678 H_5679 H_5689 H_5789 H_6789 H_567 H_568 H_569 H_578 H_579 H_589 H_678 H_679 H_689 H_789
          go_simp
          exact hK.out _ _ kI2 (fun _ => z)
      have H_5 : ∀ (W : World) (p5 : Nat), Blk W N 26 (in16 i) → Below N w W → Blk W p5 26 z16 → N < p5 → R 9 #[true, true, true, true, true, true, false, false, false, false, false, false, false, false, false] (tmP i c N (.pointer (some ⟨p5, 0, none⟩)) undef undef undef undef) W := by
        intro W p5 kI kb k5 n5
        rw [hR]
        have kN := Blk.new W 26 z16
        have hW := kI.lt
        have l5 := k5.lt
        have kI2 := kI.alloc (.cells z16 26)
        have kb2 := kb.alloc (Nat.le_of_lt hW) (.cells z16 26)
        have k52 := k5.alloc (.cells z16 26)
        refine wpAnyH_ready (rs := [6, 7, 8, 9]) (by kernel_rfl) (by simp) ?_
        refine (AllReadyH.cons rfl (fun K hK => ?_) (AllReadyH.cons rfl (fun K hK => ?_) (AllReadyH.cons rfl (fun K hK => ?_) (AllReadyH.cons rfl (fun K hK => ?_) AllReadyH.nil))))
        · have z := H_56 (W.alloc (.cells z16 26)) p5 W.heap.size kI2 kb2 k52 kN n5 hW (Nat.ne_of_lt l5)
          rw [hR] at z
          clear H_56789 H_5678 H_5679 H_5689 H_5789 H_6789 H_567 H_568 H_569 H_578 H_579 H_589 H_678 H_679 H_689 H_789 H_56 H_57 H_58 H_59 H_67 H_68 H_69 H_78 H_79 H_89
          go_simp
          exact hK.out _ _ kI2 (fun _ => z)
        · have z := H_57 (W.alloc (.cells z16 26)) p5 W.heap.size kI2 kb2 k52 kN n5 hW (Nat.ne_of_lt l5)
          rw [hR] at z
          clear H_56789 H_5678 H_5679 H_5689 H_5789 H_6789 H_567 H_568 H_569 H_578 H_579 H_589 H_678 H_679 H_689 H_789 H_56 H_57 H_58 H_59 H_67 H_68 H_69 H_78 H_79 H_89
          go_simp
          exact hK.out _ _ kI2 (fun _ => z)
        · have z := H_58 (W.alloc (.cells z16 26)) p5 W.heap.size kI2 kb2 k52 kN n5 hW (Nat.ne_of_lt l5)
          rw [hR] at z
          clear H_56789 H_5678 H_5679 H_5689 H_5789 H_6789 H_567 H_568 H_569 H_578 H_579 H_589 H_678 H_679 H_689 H_789 H_56 H_57 H_58 H_59 H_67 H_68 H_69 H_78 H_79 H_89
          go_simp
          exact hK.out _ _ kI2 (fun _ => z)
        · have z := H_59 (W.alloc (.cells z16 26)) p5 W.heap.size kI2 kb2 k52 kN n5 hW (Nat.ne_of_lt l5)
          rw [hR] at z
          clear H_56789 H_5678 H_5679 H_5689 H_5789 H_6789 H_567 H_568 H_569 H_578 H_579 H_589 H_678 H_679 H_689 H_789 H_56 H_57 H_58 H_59 H_67 H_68 H_69 H_78 H_79 H_89
          go_simp
          exact hK.out _ _ kI2 (fun _ => z)
      have H_6 : ∀ (W : World) (p6 : Nat), Blk W N 26 (in16 i) → Below N w W → Blk W p6 26 z16 → N < p6 → R 9 #[true, true, true, true, true, false, true, false, false, false, false, false, false, false, false] (tmP i c N undef (.pointer (some ⟨p6, 0, none⟩)) undef undef undef) W := by
        intro W p6 kI kb k6 n6
        rw [hR]
        have kN := Blk.new W 26 z16
        have hW := kI.lt
        have l6 := k6.lt
        have kI2 := kI.alloc (.cells z16 26)
        have kb2 := kb.alloc (Nat.le_of_lt hW) (.cells z16 26)
        have k62 := k6.alloc (.cells z16 26)
        refine wpAnyH_ready (rs := [5, 7, 8, 9]) (by kernel_rfl) (by simp) ?_
        refine (AllReadyH.cons rfl (fun K hK => ?_) (AllReadyH.cons rfl (fun K hK => ?_) (AllReadyH.cons rfl (fun K hK => ?_) (AllReadyH.cons rfl (fun K hK => ?_) AllReadyH.nil))))
        · have z := H_56 (W.alloc (.cells z16 26)) W.heap.size p6 kI2 kb2 kN k62 hW n6 (Nat.ne_of_gt l6)
          rw [hR] at z
          clear H_56789 H_5678 H_5679 H_5689 H_5789 H_6789 H_567 H_568 H_569 H_578 H_579 H_589 H_678 H_679 H_689 H_789 H_56 H_57 H_58 H_59 H_67 H_68 H_69 H_78 H_79 H_89
          go_simp
          exact hK.out _ _ kI2 (fun _ => z)
        · have z := H_67 (W.alloc (.cells z16 26)) p6 W.heap.size kI2 kb2 k62 kN n6 hW (Nat.ne_of_lt l6)
          rw [hR] at z
          clear H_56789 H_5678 H_5679 H_5689 H_5789 H_6789 H_567 H_568 H_569 H_578 H_579 H_589 H_678 H_679 H_689 H_789 H_56 H_57 H_58 H_59 H_67 H_68 H_69 H_78 H_79 H_89
          go_simp
          exact hK.out _ _ kI2 (fun _ => z)
        · have z := H_68 (W.alloc (.cells z16 26)) p6 W.heap.size kI2 kb2 k62 kN n6 hW (Nat.ne_of_lt l6)
          rw [hR] at z
          clear H_56789 H_5678 H_5679 H_5689 H_5789 H_6789 H_567 H_568 H_569 H_578 H_579 H_589 H_678 H_679 H_689 H_789 H_56 H_57 H_58 H_59 H_67 H_68 H_69 H_78 H_79 H_89
          go_simp
          exact hK.out _ _ kI2 (fun _ => z)
        · have z := H_69 (W.alloc (.cells z16 26)) p6 W.heap.size kI2 kb2 k62 kN n6 hW (Nat.ne_of_lt l6)
          rw [hR] at z
          clear H_56789 H_5678 H_5679 H_5689 H_5789 H_6789 H_567 H_568 H_569 H_578 H_579 H_589 H_678 H_679 H_689 H_789 H_56 H_57 H_58 H_59 H_67 H_68 H_69 H_78 H_79 H_89
          go_simp
          exact hK.out _ _ kI2 (fun _ => z)
      have H_7 : ∀ (W : World) (p7 : Nat), Blk W N 26 (in16 i) → Below N w W → Blk W p7 26 z16 → N < p7 → R 9 #[true, true, true, true, true, false, false, true, false, false, false, false, false, false, false] (tmP i c N undef undef (.pointer (some ⟨p7, 0, none⟩)) undef undef) W := by
        intro W p7 kI kb k7 n7
        rw [hR]
        have kN := Blk.new W 26 z16
        have hW := kI.lt
        have l7 := k7.lt
        have kI2 := kI.alloc (.cells z16 26)
        have kb2 := kb.alloc (Nat.le_of_lt hW) (.cells z16 26)
        have k72 := k7.alloc (.cells z16 26)
        refine wpAnyH_ready (rs := [5, 6, 8, 9]) (by kernel_rfl) (by simp) ?_
        refine (AllReadyH.cons rfl (fun K hK => ?_) (AllReadyH.cons rfl (fun K hK => ?_) (AllReadyH.cons rfl (fun K hK => ?_) (AllReadyH.cons rfl (fun K hK => ?_) AllReadyH.nil))))
        · have z := H_57 (W.alloc (.cells z16 26)) W.heap.size p7 kI2 kb2 kN k72 hW n7 (Nat.ne_of_gt l7)
          rw [hR] at z
          clear H_56789 H_5678 H_5679 H_5689 H_5789 H_6789 H_567 H_568 H_569 H_578 H_579 H_589 H_678 H_679 H_689 H_789 H_56 H_57 H_58 H_59 H_67 H_68 H_69 H_78 H_79 H_89
          go_simp
          exact hK.out _ _ kI2 (fun _ => z)
        · have z := H_67 (W.alloc (.cells z16 26)) W.heap.size p7 kI2 kb2 kN k72 hW n7 (Nat.ne_of_gt l7)
          rw [hR] at z
          clear H_56789 H_5678 H_5679 H_5689 H_5789 H_6789 H_567 H_568 H_569 H_578 H_579 H_589 H_678 H_679 H_689 H_789 H_56 H_57 H_58 H_59 H_67 H_68 H_69 H_78 H_79 H_89
          go_simp
          exact hK.out _ _ kI2 (fun _ => z)
        · have z := H_78 (W.alloc (.cells z16 26)) p7 W.heap.size kI2 kb2 k72 kN n7 hW (Nat.ne_of_lt l7)
          rw [hR] at z
          clear H_56789 H_5678 H_5679 H_5689 H_5789 H_6789 H_567 H_568 H_569 H_578 H_579 H_589 H_678 H_679 H_689 H_789 H_56 H_57 H_58 H_59 H_67 H_68 H_69 H_78 H_79 H_89
          go_simp
          exact hK.out _ _ kI2 (fun _ => z)
        · have z := H_79 (W.alloc (.cells z16 26)) p7 W.heap.size kI2 kb2 k72 kN n7 hW (Nat.ne_of_lt l7)
          rw [hR] at z
          clear H_56789 H_5678 H_5679 H_5689 H_5789 H_6789 H_567 H_568 H_569 H_578 H_579 H_589 H_678 H_679 H_689 H_789 H_56 H_57 H_58 H_59 H_67 H_68 H_69 H_78 H_79 H_89
          go_simp
          exact hK.out _ _ kI2 (fun _ => z)
      have H_8 : ∀ (W : World) (p8 : Nat), Blk W N 26 (in16 i) → Below N w W → Blk W p8 26 z16 → N < p8 → R 9 #[true, true, true, true, true, false, false, false, true, false, false, false, false, false, false] (tmP i c N undef undef undef (.pointer (some ⟨p8, 0, none⟩)) undef) W := by
        intro W p8 kI kb k8 n8
        rw [hR]
        have kN := Blk.new W 26 z16
        have hW := kI.lt
        have l8 := k8.lt
        have kI2 := kI.alloc (.cells z16 26)
        have kb2 := kb.alloc (Nat.le_of_lt hW) (.cells z16 26)
        have k82 := k8.alloc (.cells z16 26)
        refine wpAnyH_ready (rs := [5, 6, 7, 9]) (by kernel_rfl) (by simp) ?_
        refine (AllReadyH.cons rfl (fun K hK => ?_) (AllReadyH.cons rfl (fun K hK => ?_) (AllReadyH.cons rfl (fun K hK => ?_) (AllReadyH.cons rfl (fun K hK => ?_) AllReadyH.nil))))
        · have z := H_58 (W.alloc (.cells z16 26)) W.heap.size p8 kI2 kb2 kN k82 hW n8 (Nat.ne_of_gt l8)
          rw [hR] at z
          clear H_56789 H_5678 H_5679 H_5689 H_5789 H_6789 H_567 H_568 H_569 H_578 H_579 H_589 H_678 H_679 H_689 H_789 H_56 H_57 H_58 H_59 H_67 H_68 H_69 H_78 H_79 H_89
          go_simp
          exact hK.out _ _ kI2 (fun _ => z)
        · have z := H_68 (W.alloc (.cells z16 26)) W.heap.size p8 kI2 kb2 kN k82 hW n8 (Nat.ne_of_gt l8)
          rw [hR] at z
          clear H_56789 H_5678 H_5679 H_5689 H_5789 H_6789 H_567 H_568 H_569 H_578 H_579 H_589 H_678 H_679 H_689 H_789 H_56 H_57 H_58 H_59 H_67 H_68 H_69 H_78 H_79 H_89
          go_simp
          exact hK.out _ _ kI2 (fun _ => z)
        · have z := H_78 (W.alloc (.cells z16 26)) W.heap.size p8 kI2 kb2 kN k82 hW n8 (Nat.ne_of_gt l8)
          rw [hR] at z
          clear H_56789 H_5678 H_5679 H_5689 H_5789 H_6789 H_567 H_568 H_569 H_578 H_579 H_589 H_678 H_679 H_689 H_789 H_56 H_57 H_58 H_59 H_67 H_68 H_69 H_78 H_79 H_89
          go_simp
          exact hK.out _ _ kI2 (fun _ => z)
        · have z := H_89 (W.alloc (.cells z16 26)) p8 W.heap.size kI2 kb2 k82 kN n8 hW (Nat.ne_of_lt l8)
          rw [hR] at z
          clear H_56789 H_5678 H_5679 H_5689 H_5789 H_6789 H_567 H_568 H_569 H_578 H_579 H_589 H_678 H_679 H_689 H_789 H_56 H_57 H_58 H_59 H_67 H_68 H_69 H_78 H_79 H_89
          go_simp
          exact hK.out _ _ kI2 (fun _ => z)
      have H_9 : ∀ (W : World) (p9 : Nat), Blk W N 26 (in16 i) → Below N w W → Blk W p9 26 z16 → N < p9 → R 9 #[true, true, true, true, true, false, false, false, false, true, false, false, false, false, false] (tmP i c N undef undef undef undef (.pointer (some ⟨p9, 0, none⟩))) W := by
        intro W p9 kI kb k9 n9
        rw [hR]
        have kN := Blk.new W 26 z16
        have hW := kI.lt
        have l9 := k9.lt
        have kI2 := kI.alloc (.cells z16 26)
        have kb2 := kb.alloc (Nat.le_of_lt hW) (.cells z16 26)
        have k92 := k9.alloc (.cells z16 26)
        refine wpAnyH_ready (rs := [5, 6, 7, 8]) (by kernel_rfl) (by simp) ?_
        refine (AllReadyH.cons rfl (fun K hK => ?_) (AllReadyH.cons rfl (fun K hK => ?_) (AllReadyH.cons rfl (fun K hK => ?_) (AllReadyH.cons rfl (fun K hK => ?_) AllReadyH.nil))))
        · have z := H_59 (W.alloc (.cells z16 26)) W.heap.size p9 kI2 kb2 kN k92 hW n9 (Nat.ne_of_gt l9)
          rw [hR] at z
          clear H_56789 H_5678 H_5679 H_5689 H_5789 H_6789 H_567 H_568 H_569 H_578 H_579 H_589 H_678 H_679 H_689 H_789 H_56 H_57 H_58 H_59 H_67 H_68 H_69 H_78 H_79 H_89
          go_simp
          exact hK.out _ _ kI2 (fun _ => z)
        · have z := H_69 (W.alloc (.cells z16 26)) W.heap.size p9 kI2 kb2 kN k92 hW n9 (Nat.ne_of_gt l9)
          rw [hR] at z
          clear H_56789 H_5678 H_5679 H_5689 H_5789 H_6789 H_567 H_568 H_569 H_578 H_579 H_589 H_678 H_679 H_689 H_789 H_56 H_57 H_58 H_59 H_67 H_68 H_69 H_78 H_79 H_89
          go_simp
          exact hK.out _ _ kI2 (fun _ => z)
        · have z := H_79 (W.alloc (.cells z16 26)) W.heap.size p9 kI2 kb2 kN k92 hW n9 (Nat.ne_of_gt l9)
          rw [hR] at z
          clear H_56789 H_5678 H_5679 H_5689 H_5789 H_6789 H_567 H_568 H_569 H_578 H_579 H_589 H_678 H_679 H_689 H_789 H_56 H_57 H_58 H_59 H_67 H_68 H_69 H_78 H_79 H_89
          go_simp
          exact hK.out _ _ kI2 (fun _ => z)
        · have z := H_89 (W.alloc (.cells z16 26)) W.heap.size p9 kI2 kb2 kN k92 hW n9 (Nat.ne_of_gt l9)
          rw [hR] at z
          clear H_56789 H_5678 H_5679 H_5689 H_5789 H_6789 H_567 H_568 H_569 H_578 H_579 H_589 H_678 H_679 H_689 H_789 H_56 H_57 H_58 H_59 H_67 H_68 H_69 H_78 H_79 H_89
          go_simp
          exact hK.out _ _ kI2 (fun _ => z)
      have H_0 : ∀ (W : World), Blk W N 26 (in16 i) → Below N w W → R 10 #[true, true, true, true, true, false, false, false, false, false, false, false, false, false, false] (tmP i c N undef undef undef undef undef) W := by
        intro W kI kb
        rw [hR]
        have kN := Blk.new W 26 z16
        have hW := kI.lt
        have kI2 := kI.alloc (.cells z16 26)
        have kb2 := kb.alloc (Nat.le_of_lt hW) (.cells z16 26)
        refine wpAnyH_ready (rs := [5, 6, 7, 8, 9]) (by kernel_rfl) (by simp) ?_
        refine (AllReadyH.cons rfl (fun K hK => ?_) (AllReadyH.cons rfl (fun K hK => ?_) (AllReadyH.cons rfl (fun K hK => ?_) (AllReadyH.cons rfl (fun K hK => ?_) (AllReadyH.cons rfl (fun K hK => ?_) AllReadyH.nil)))))
        · have z := H_5 (W.alloc (.cells z16 26)) W.heap.size kI2 kb2 kN hW
          rw [hR] at z
          clear H_56789 H_5678 H_5679 H_5689 H_5789 H_6789 H_567 H_568 H_569 H_578 H_579 H_589 H_678 H_679 H_689 H_789 H_56 H_57 H_58 H_59 H_67 H_68 H_69 H_78 H_79 H_89 H_5 H_6 H_7 H_8 H_9
          go_simp
          exact hK.out _ _ kI2 (fun _ => z)
        · have z := H_6 (W.alloc (.cells z16 26)) W.heap.size kI2 kb2 kN hW
          rw [hR] at z
          clear H_56789 H_5678 H_5679 H_5689 H_5789 H_6789 H_567 H_568 H_569 H_578 H_579 H_589 H_678 H_679 H_689 H_789 H_56 H_57 H_58 H_59 H_67 H_68 H_69 H_78 H_79 H_89 H_5 H_6 H_7 H_8 H_9
          go_simp
          exact hK.out _ _ kI2 (fun _ => z)
        · have z := H_7 (W.alloc (.cells z16 26)) W.heap.size kI2 kb2 kN hW
          rw [hR] at z
          clear H_56789 H_5678 H_5679 H_5689 H_5789 H_6789 H_567 H_568 H_569 H_578 H_579 H_589 H_678 H_679 H_689 H_789 H_56 H_57 H_58 H_59 H_67 H_68 H_69 H_78 H_79 H_89 H_5 H_6 H_7 H_8 H_9
          go_simp
          exact hK.out _ _ kI2 (fun _ => z)
        · have z := H_8 (W.alloc (.cells z16 26)) W.heap.size kI2 kb2 kN hW
          rw [hR] at z
          clear H_56789 H_5678 H_5679 H_5689 H_5789 H_6789 H_567 H_568 H_569 H_578 H_579 H_589 H_678 H_679 H_689 H_789 H_56 H_57 H_58 H_59 H_67 H_68 H_69 H_78 H_79 H_89 H_5 H_6 H_7 H_8 H_9
          go_simp
          exact hK.out _ _ kI2 (fun _ => z)
        · have z := H_9 (W.alloc (.cells z16 26)) W.heap.size kI2 kb2 kN hW
          rw [hR] at z
          clear H_56789 H_5678 H_5679 H_5689 H_5789 H_6789 H_567 H_568 H_569 H_578 H_579 H_589 H_678 H_679 H_689 H_789 H_56 H_57 H_58 H_59 H_67 H_68 H_69 H_78 H_79 H_89 H_5 H_6 H_7 H_8 H_9
          go_simp
          exact hK.out _ _ kI2 (fun _ => z)
      exact H_0 _ hH0 kb
    case rest =>
    obtain ⟨p5, p6, p7, p8, p9, rfl, rfl, rfl, rfl, rfl, k5, k6, k7, k8, k9, kI, kb, n5, n6, n7, n8, n9, d56, d57, d58, d59, d67, d68, d69, d78, d79, d89⟩ := hcut
    clear tabs hSB
    have hc0 := hc.1
    have hc1 := hc.2
    have hw1 : IntKind.i64.wrap (c + 16) = c + 16 := by rw [IntKind.wrap_i64]; omega
    have hw2 : IntKind.i64.wrap (c % 15 + 1) = c % 15 + 1 := by rw [IntKind.wrap_i64]; omega
    have ht : Int.tmod c 15 = c % 15 := Int.tmod_eq_emod_of_nonneg hc0
    have cc := k5.cell (i := 15) (v := .int .i64 i.len) rfl
    have ff := k5.fr 15
    go_upto_region 7 with fail
    clear cc ff
    replace k6 := k6.other 15 (.int .i64 16) (M := p5) (Ne.symm d56)
    replace k7 := k7.other 15 (.int .i64 16) (M := p5) (Ne.symm d57)
    replace k8 := k8.other 15 (.int .i64 16) (M := p5) (Ne.symm d58)
    replace k9 := k9.other 15 (.int .i64 16) (M := p5) (Ne.symm d59)
    replace kI := kI.other 15 (.int .i64 16) (M := p5) (Nat.ne_of_lt n5)
    replace k5 : Blk (wc.setCell ⟨p5, 15, none⟩ (.int .i64 16)) p5 26 (in16 (iA i)) := k5.set 15 (.int .i64 16)
    replace kb : Below N w (wc.setCell ⟨p5, 15, none⟩ (.int .i64 16)) := ((But.of kb [p5]).setCell (p := ⟨p5, 15, none⟩) (by simp) _).below (Nat.le_refl _) (by simp; omega)
    generalize wc.setCell ⟨p5, 15, none⟩ (.int .i64 16) = W5 at *
    have cc := k6.cell (i := 1) (v := .int .i64 i.c) rfl
    have ff := k6.fr 1
    go_upto_region 8 with fail
    clear cc ff
    replace k5 := k5.other 1 (.int .i64 (c + 16)) (M := p6) d56
    replace k7 := k7.other 1 (.int .i64 (c + 16)) (M := p6) (Ne.symm d67)
    replace k8 := k8.other 1 (.int .i64 (c + 16)) (M := p6) (Ne.symm d68)
    replace k9 := k9.other 1 (.int .i64 (c + 16)) (M := p6) (Ne.symm d69)
    replace kI := kI.other 1 (.int .i64 (c + 16)) (M := p6) (Nat.ne_of_lt n6)
    replace k6 : Blk (W5.setCell ⟨p6, 1, none⟩ (.int .i64 (c + 16))) p6 26 (in16 (iB i c)) := k6.set 1 (.int .i64 (c + 16))
    replace kb : Below N w (W5.setCell ⟨p6, 1, none⟩ (.int .i64 (c + 16))) := ((But.of kb [p6]).setCell (p := ⟨p6, 1, none⟩) (by simp) _).below (Nat.le_refl _) (by simp; omega)
    generalize W5.setCell ⟨p6, 1, none⟩ (.int .i64 (c + 16)) = W6 at *
    have cc := k7.cell (i := 2) (v := .int .i64 i.A.k) rfl
    have ff := k7.fr 2
    go_upto_region 9 with fail
    clear cc ff
    replace k5 := k5.other 2 (.int .i64 9) (M := p7) d57
    replace k6 := k6.other 2 (.int .i64 9) (M := p7) d67
    replace k8 := k8.other 2 (.int .i64 9) (M := p7) (Ne.symm d78)
    replace k9 := k9.other 2 (.int .i64 9) (M := p7) (Ne.symm d79)
    replace kI := kI.other 2 (.int .i64 9) (M := p7) (Nat.ne_of_lt n7)
    replace k7 : Blk (W6.setCell ⟨p7, 2, none⟩ (.int .i64 9)) p7 26 (in16 (iC i)) := k7.set 2 (.int .i64 9)
    replace kb : Below N w (W6.setCell ⟨p7, 2, none⟩ (.int .i64 9)) := ((But.of kb [p7]).setCell (p := ⟨p7, 2, none⟩) (by simp) _).below (Nat.le_refl _) (by simp; omega)
    generalize W6.setCell ⟨p7, 2, none⟩ (.int .i64 9) = W7 at *
    have cc := k8.cell (i := 14) (v := .bool i.rep) rfl
    have ff := k8.fr 14
    go_upto_region 10 with fail
    clear cc ff
    replace k5 := k5.other 14 (.bool true) (M := p8) d58
    replace k6 := k6.other 14 (.bool true) (M := p8) d68
    replace k7 := k7.other 14 (.bool true) (M := p8) d78
    replace k9 := k9.other 14 (.bool true) (M := p8) (Ne.symm d89)
    replace kI := kI.other 14 (.bool true) (M := p8) (Nat.ne_of_lt n8)
    replace k8 : Blk (W7.setCell ⟨p8, 14, none⟩ (.bool true)) p8 26 (in16 (iD i)) := k8.set 14 (.bool true)
    replace kb : Below N w (W7.setCell ⟨p8, 14, none⟩ (.bool true)) := ((But.of kb [p8]).setCell (p := ⟨p8, 14, none⟩) (by simp) _).below (Nat.le_refl _) (by simp; omega)
    generalize W7.setCell ⟨p8, 14, none⟩ (.bool true) = W8 at *
    have cc := k9.cell (i := 8) (v := .int .i64 i.B.k) rfl
    have ff := k9.fr 8
    go_upto_region 11 with fail
    clear cc ff
    replace k5 := k5.other 8 (.int .i64 (-1)) (M := p9) d59
    replace k6 := k6.other 8 (.int .i64 (-1)) (M := p9) d69
    replace k7 := k7.other 8 (.int .i64 (-1)) (M := p9) d79
    replace k8 := k8.other 8 (.int .i64 (-1)) (M := p9) d89
    replace kI := kI.other 8 (.int .i64 (-1)) (M := p9) (Nat.ne_of_lt n9)
    replace k9 : Blk (W8.setCell ⟨p9, 8, none⟩ (.int .i64 (-1))) p9 26 (in16 (iE i)) := k9.set 8 (.int .i64 (-1))
    replace kb : Below N w (W8.setCell ⟨p9, 8, none⟩ (.int .i64 (-1))) := ((But.of kb [p9]).setCell (p := ⟨p9, 8, none⟩) (by simp) _).below (Nat.le_refl _) (by simp; omega)
    generalize W8.setCell ⟨p9, 8, none⟩ (.int .i64 (-1)) = W9 at *
    have d0 := kI.cell (i := 0) (v := .int .i64 i.op) rfl
    go_cut [10] from 12 to 87 (fun t10 W => t10 = .bool (i.op == 33 || i.op == 34 || i.op == 35) ∧ W = W9)
    case first =>
      clear qA qB qC qD qE qF k5 k6 k7 k8 k9 kI kb
      go_wp2
      all_goals go_meet
      all_goals refine ⟨congrArg Value.bool ?_, rfl⟩
      all_goals clear d0
      all_goals simp [*]
    case rest =>
    obtain ⟨rfl, rfl⟩ := hcut
    clear d0
    have hSB := kb.size
    rw [hN] at hSB
    have oI := one_in i
    go_upto_region 13 with (first | (with_reducible refine load_inG (by kernel_rfl) _ rfl N rfl (in16 i) z1 kI ?_) | ((with_reducible refine store_in_as rfl _ _ rfl (w0 := wc) (in16 i) z1 oI rfl rfl ?_); intro W2 kF bb))
    try simp only [Act.put]
    have e5 := k5.lt
    have e6 := k6.lt
    have e7 := k7.lt
    have e8 := k8.lt
    have e9 := k9.lt
    have eI := kI.lt
    replace k5 := k5.below bb e5
    replace k6 := k6.below bb e6
    replace k7 := k7.below bb e7
    replace k8 := k8.below bb e8
    replace k9 := k9.below bb e9
    replace kI := kI.below bb eI
    replace kb := kb.trans (bb.mono hSB)
    clear bb hSB
    generalize wc.heap.size = pF at *
    have cc := kF.cell (i := 1) (v := .int .i64 i.c) rfl
    have ff := kF.fr 1
    go_upto_region 14 with fail
    clear cc ff
    replace k5 := k5.other 1 (.int .i64 (c % 15 + 1)) (M := pF) (Nat.ne_of_lt e5)
    replace k6 := k6.other 1 (.int .i64 (c % 15 + 1)) (M := pF) (Nat.ne_of_lt e6)
    replace k7 := k7.other 1 (.int .i64 (c % 15 + 1)) (M := pF) (Nat.ne_of_lt e7)
    replace k8 := k8.other 1 (.int .i64 (c % 15 + 1)) (M := pF) (Nat.ne_of_lt e8)
    replace k9 := k9.other 1 (.int .i64 (c % 15 + 1)) (M := pF) (Nat.ne_of_lt e9)
    replace kI := kI.other 1 (.int .i64 (c % 15 + 1)) (M := pF) (Nat.ne_of_lt eI)
    replace kF : Blk (W2.setCell ⟨pF, 1, none⟩ (.int .i64 (c % 15 + 1))) pF 26 (in16 (iF i c)) := kF.set 1 _
    replace kb : Below N w (W2.setCell ⟨pF, 1, none⟩ (.int .i64 (c % 15 + 1))) := ((But.of kb [pF]).setCell (p := ⟨pF, 1, none⟩) (by simp) _).below (Nat.le_refl _) (by simp; omega)
    generalize W2.setCell ⟨pF, 1, none⟩ (.int .i64 (c % 15 + 1)) = W14 at *
    have hSB := kb.drew.size
    rw [hN] at hSB
    have tabs : Tabs W14.drew := tabs0.below (hN ▸ kb.drew)
    replace kb := kb.drew
    clear tabs0 hw1 hw2 ht hc hc0 hc1 d56 d57 d58 d59 d67 d68 d69 d78 d79 d89 n5 n6 n7 n8 n9 e5 e6 e7 e8 e9 eI oI
    obtain ⟨o, hO⟩ : ∃ o, (i.op == 41) = o := ⟨_, rfl⟩
    obtain ⟨o2, hO2⟩ : ∃ o, (i.op == 42) = o := ⟨_, rfl⟩
    rw [hO, hO2] at qD
    generalize (i.op == 33 || i.op == 34 || i.op == 35) = vF at *
    have hS0 := And.intro k5.drew (And.intro k6.drew (And.intro k7.drew (And.intro k8.drew (And.intro k9.drew (And.intro kF.drew kI.drew)))))
    clear k5 k6 k7 k8 k9 kF kI
    refine wp_region_held_drew (S := fun W => Blk W p5 26 (in16 (iA i)) ∧ Blk W p6 26 (in16 (iB i c)) ∧ Blk W p7 26 (in16 (iC i)) ∧ Blk W p8 26 (in16 (iD i)) ∧ Blk W p9 26 (in16 (iE i)) ∧ Blk W pF 26 (in16 (iF i c)) ∧ Blk W N 26 (in16 i)) (by kernel_rfl) hS0 (fun hH0 => ?_)
    refine wpAnyH_take (i := 0) (v := inV (iA i)) rfl (by kernel_rfl) (by kernel_rfl) (by kernel_rfl) (fun _ _ _ h => h) (Or.inl ⟨by kernel_rfl, ?_⟩) hH0 ?_
    · intro W hS
      exact run_load_row (by rfl) (by rfl) 26 _ (0, 0) _ hS.1.h Tryd.underlying26 rfl (szIn (iA i))
    simp only [Act.put, List.setIfInBounds_toArray, List.set_cons_zero, List.set_cons_succ]
    refine wpAnyH_ready (rs := [1]) (by kernel_rfl) (by simp) ?_
    refine AllReadyH.cons rfl (fun K hK => ?_) AllReadyH.nil
    go_simp
    with_reducible refine (qA.out _ tabs).mono ?_
    rintro e v0 ⟨rfl, bb⟩
    have hH1 := And.intro (hH0.1.below bb hH0.1.lt) (And.intro (hH0.2.1.below bb hH0.2.1.lt) (And.intro (hH0.2.2.1.below bb hH0.2.2.1.lt) (And.intro (hH0.2.2.2.1.below bb hH0.2.2.2.1.lt) (And.intro (hH0.2.2.2.2.1.below bb hH0.2.2.2.2.1.lt) (And.intro (hH0.2.2.2.2.2.1.below bb hH0.2.2.2.2.2.1.lt) (hH0.2.2.2.2.2.2.below bb hH0.2.2.2.2.2.2.lt))))))
    replace tabs := tabs.below bb
    replace kb := kb.trans (bb.mono hSB)
    replace hSB := Nat.le_trans hSB bb.size
    clear bb
    refine hK.out _ _ hH1 (fun _ => ?_)
    clear hK K
    try simp only [Act.put, List.setIfInBounds_toArray, List.set_cons_zero, List.set_cons_succ]
    refine wpAnyH_take (i := 2) (v := ?_) rfl (by kernel_rfl) (by kernel_rfl) (by kernel_rfl) (fun _ _ _ h => h) (Or.inl ⟨by kernel_rfl, ?_⟩) hH1 ?_
    rotate_left
    · intro W hS
      go_simp
      try rfl
    simp only [Act.put, List.setIfInBounds_toArray, List.set_cons_zero, List.set_cons_succ, List.getElem_toArray, List.getElem_cons_succ, List.getElem_cons_zero]
    refine wpAnyH_take (i := 3) (v := ?_) rfl (by kernel_rfl) (by kernel_rfl) (by kernel_rfl) (fun _ _ _ h => h) (Or.inl ⟨by kernel_rfl, ?_⟩) hH1 ?_
    rotate_left
    · intro W hS
      go_simp
      try rfl
    simp only [Act.put, List.setIfInBounds_toArray, List.set_cons_zero, List.set_cons_succ, List.getElem_toArray, List.getElem_cons_succ, List.getElem_cons_zero]
    refine wpAnyH_take (i := 4) (v := inV (iB i c)) rfl (by kernel_rfl) (by kernel_rfl) (by kernel_rfl) (fun _ _ _ h => h) (Or.inl ⟨by kernel_rfl, ?_⟩) hH1 ?_
    · intro W hS
      exact run_load_row (by rfl) (by rfl) 26 _ (0, 0) _ hS.2.1.h Tryd.underlying26 rfl (szIn (iB i c))
    simp only [Act.put, List.setIfInBounds_toArray, List.set_cons_zero, List.set_cons_succ]
    refine wpAnyH_ready (rs := [5]) (by kernel_rfl) (by simp) ?_
    refine AllReadyH.cons rfl (fun K hK => ?_) AllReadyH.nil
    go_simp
    with_reducible refine (qB.out _ tabs).mono ?_
    rintro e v1 ⟨rfl, bb⟩
    have hH2 := And.intro (hH1.1.below bb hH1.1.lt) (And.intro (hH1.2.1.below bb hH1.2.1.lt) (And.intro (hH1.2.2.1.below bb hH1.2.2.1.lt) (And.intro (hH1.2.2.2.1.below bb hH1.2.2.2.1.lt) (And.intro (hH1.2.2.2.2.1.below bb hH1.2.2.2.2.1.lt) (And.intro (hH1.2.2.2.2.2.1.below bb hH1.2.2.2.2.2.1.lt) (hH1.2.2.2.2.2.2.below bb hH1.2.2.2.2.2.2.lt))))))
    replace tabs := tabs.below bb
    replace kb := kb.trans (bb.mono hSB)
    replace hSB := Nat.le_trans hSB bb.size
    clear bb
    refine hK.out _ _ hH2 (fun _ => ?_)
    clear hK K
    try simp only [Act.put, List.setIfInBounds_toArray, List.set_cons_zero, List.set_cons_succ]
    refine wpAnyH_take (i := 6) (v := ?_) rfl (by kernel_rfl) (by kernel_rfl) (by kernel_rfl) (fun _ _ _ h => h) (Or.inl ⟨by kernel_rfl, ?_⟩) hH2 ?_
    rotate_left
    · intro W hS
      go_simp
      try rfl
    simp only [Act.put, List.setIfInBounds_toArray, List.set_cons_zero, List.set_cons_succ, List.getElem_toArray, List.getElem_cons_succ, List.getElem_cons_zero]
    refine wpAnyH_take (i := 7) (v := ?_) rfl (by kernel_rfl) (by kernel_rfl) (by kernel_rfl) (fun _ _ _ h => h) (Or.inl ⟨by kernel_rfl, ?_⟩) hH2 ?_
    rotate_left
    · intro W hS
      go_simp
      try rfl
    simp only [Act.put, List.setIfInBounds_toArray, List.set_cons_zero, List.set_cons_succ, List.getElem_toArray, List.getElem_cons_succ, List.getElem_cons_zero]
    refine wpAnyH_take (i := 8) (v := ?_) rfl (by kernel_rfl) (by kernel_rfl) (by kernel_rfl) (fun _ _ _ h => h) (Or.inl ⟨by kernel_rfl, ?_⟩) hH2 ?_
    rotate_left
    · intro W hS
      go_simp
      try rfl
    simp only [Act.put, List.setIfInBounds_toArray, List.set_cons_zero, List.set_cons_succ, List.getElem_toArray, List.getElem_cons_succ, List.getElem_cons_zero]
    refine wpAnyH_take (i := 9) (v := inV (iC i)) rfl (by kernel_rfl) (by kernel_rfl) (by kernel_rfl) (fun _ _ _ h => h) (Or.inl ⟨by kernel_rfl, ?_⟩) hH2 ?_
    · intro W hS
      exact run_load_row (by rfl) (by rfl) 26 _ (0, 0) _ hS.2.2.1.h Tryd.underlying26 rfl (szIn (iC i))
    simp only [Act.put, List.setIfInBounds_toArray, List.set_cons_zero, List.set_cons_succ]
    refine wpAnyH_ready (rs := [10]) (by kernel_rfl) (by simp) ?_
    refine AllReadyH.cons rfl (fun K hK => ?_) AllReadyH.nil
    go_simp
    with_reducible refine (qC.out _ tabs).mono ?_
    rintro e v2 ⟨rfl, bb⟩
    have hH3 := And.intro (hH2.1.below bb hH2.1.lt) (And.intro (hH2.2.1.below bb hH2.2.1.lt) (And.intro (hH2.2.2.1.below bb hH2.2.2.1.lt) (And.intro (hH2.2.2.2.1.below bb hH2.2.2.2.1.lt) (And.intro (hH2.2.2.2.2.1.below bb hH2.2.2.2.2.1.lt) (And.intro (hH2.2.2.2.2.2.1.below bb hH2.2.2.2.2.2.1.lt) (hH2.2.2.2.2.2.2.below bb hH2.2.2.2.2.2.2.lt))))))
    replace tabs := tabs.below bb
    replace kb := kb.trans (bb.mono hSB)
    replace hSB := Nat.le_trans hSB bb.size
    clear bb
    refine hK.out _ _ hH3 (fun _ => ?_)
    clear hK K
    try simp only [Act.put, List.setIfInBounds_toArray, List.set_cons_zero, List.set_cons_succ]
    refine wpAnyH_take (i := 11) (v := ?_) rfl (by kernel_rfl) (by kernel_rfl) (by kernel_rfl) (fun _ _ _ h => h) (Or.inl ⟨by kernel_rfl, ?_⟩) hH3 ?_
    rotate_left
    · intro W hS
      go_simp
      try rfl
    simp only [Act.put, List.setIfInBounds_toArray, List.set_cons_zero, List.set_cons_succ, List.getElem_toArray, List.getElem_cons_succ, List.getElem_cons_zero]
    refine wpAnyH_take (i := 12) (v := ?_) rfl (by kernel_rfl) (by kernel_rfl) (by kernel_rfl) (fun _ _ _ h => h) (Or.inl ⟨by kernel_rfl, ?_⟩) hH3 ?_
    rotate_left
    · intro W hS
      go_simp
      try rfl
    simp only [Act.put, List.setIfInBounds_toArray, List.set_cons_zero, List.set_cons_succ, List.getElem_toArray, List.getElem_cons_succ, List.getElem_cons_zero]
    refine wpAnyH_take (i := 13) (v := ?_) rfl (by kernel_rfl) (by kernel_rfl) (by kernel_rfl) (fun _ _ _ h => h) (Or.inl ⟨by kernel_rfl, ?_⟩) hH3 ?_
    rotate_left
    · intro W hS
      go_simp
      try rfl
    simp only [Act.put, List.setIfInBounds_toArray, List.set_cons_zero, List.set_cons_succ, List.getElem_toArray, List.getElem_cons_succ, List.getElem_cons_zero]
    refine wpAnyH_take (i := 14) (v := inV (iD i)) rfl (by kernel_rfl) (by kernel_rfl) (by kernel_rfl) (fun _ _ _ h => h) (Or.inl ⟨by kernel_rfl, ?_⟩) hH3 ?_
    · intro W hS
      exact run_load_row (by rfl) (by rfl) 26 _ (0, 0) _ hS.2.2.2.1.h Tryd.underlying26 rfl (szIn (iD i))
    simp only [Act.put, List.setIfInBounds_toArray, List.set_cons_zero, List.set_cons_succ]
    refine wpAnyH_take (i := 16) (v := ?_) rfl (by kernel_rfl) (by kernel_rfl) (by kernel_rfl) (fun _ _ _ h => h) (Or.inl ⟨by kernel_rfl, ?_⟩) hH3 ?_
    rotate_left
    · intro W hS
      go_simp
      try rfl
    simp only [Act.put, List.setIfInBounds_toArray, List.set_cons_zero, List.set_cons_succ, List.getElem_toArray, List.getElem_cons_succ, List.getElem_cons_zero]
    refine wpAnyH_take (i := 17) (v := ?_) rfl (by kernel_rfl) (by kernel_rfl) (by kernel_rfl) (fun _ _ _ h => h) (Or.inl ⟨by kernel_rfl, ?_⟩) hH3 ?_
    rotate_left
    · intro W hS
      have cc := hS.2.2.2.2.2.2.cell (i := 0) (v := .int .i64 i.op) rfl
      go_simp
      try rfl
    simp only [Act.put, List.setIfInBounds_toArray, List.set_cons_zero, List.set_cons_succ, List.getElem_toArray, List.getElem_cons_succ, List.getElem_cons_zero]
    refine wpAnyH_take (i := 18) (v := ?_) rfl (by kernel_rfl) (by kernel_rfl) (by kernel_rfl) (fun _ _ _ h => h) (Or.inl ⟨by kernel_rfl, ?_⟩) hH3 ?_
    rotate_left
    · intro W hS
      go_simp
      try rfl
    simp only [Act.put, List.setIfInBounds_toArray, List.set_cons_zero, List.set_cons_succ, List.getElem_toArray, List.getElem_cons_succ, List.getElem_cons_zero]
    clear hO
    cases o
    · skip
      refine wpAnyH_ready (rs := [15]) (by kernel_rfl) (by simp) ?_
      refine AllReadyH.cons rfl (fun K hK => ?_) AllReadyH.nil
      go_simp
      with_reducible refine (qD.out _ tabs).mono ?_
      rintro e v3 ⟨rfl, bb⟩
      have hH4 := And.intro (hH3.1.below bb hH3.1.lt) (And.intro (hH3.2.1.below bb hH3.2.1.lt) (And.intro (hH3.2.2.1.below bb hH3.2.2.1.lt) (And.intro (hH3.2.2.2.1.below bb hH3.2.2.2.1.lt) (And.intro (hH3.2.2.2.2.1.below bb hH3.2.2.2.2.1.lt) (And.intro (hH3.2.2.2.2.2.1.below bb hH3.2.2.2.2.2.1.lt) (hH3.2.2.2.2.2.2.below bb hH3.2.2.2.2.2.2.lt))))))
      replace tabs := tabs.below bb
      replace kb := kb.trans (bb.mono hSB)
      replace hSB := Nat.le_trans hSB bb.size
      clear bb
      refine hK.out _ _ hH4 (fun _ => ?_)
      clear hK K
      try simp only [Act.put, List.setIfInBounds_toArray, List.set_cons_zero, List.set_cons_succ]
      refine wpAnyH_take (i := 19) (v := ?_) rfl (by kernel_rfl) (by kernel_rfl) (by kernel_rfl) (fun _ _ _ h => h) (Or.inl ⟨by kernel_rfl, ?_⟩) hH4 ?_
      rotate_left
      · intro W hS
        go_simp
        try rfl
      simp only [Act.put, List.setIfInBounds_toArray, List.set_cons_zero, List.set_cons_succ, List.getElem_toArray, List.getElem_cons_succ, List.getElem_cons_zero]
      refine wpAnyH_take (i := 20) (v := ?_) rfl (by kernel_rfl) (by kernel_rfl) (by kernel_rfl) (fun _ _ _ h => h) (Or.inl ⟨by kernel_rfl, ?_⟩) hH4 ?_
      rotate_left
      · intro W hS
        go_simp
        try rfl
      simp only [Act.put, List.setIfInBounds_toArray, List.set_cons_zero, List.set_cons_succ, List.getElem_toArray, List.getElem_cons_succ, List.getElem_cons_zero]
      refine wpAnyH_take (i := 21) (v := ?_) rfl (by kernel_rfl) (by kernel_rfl) (by kernel_rfl) (fun _ _ _ h => h) (Or.inl ⟨by kernel_rfl, ?_⟩) hH4 ?_
      rotate_left
      · intro W hS
        have cc := hS.2.2.2.2.2.2.cell (i := 0) (v := .int .i64 i.op) rfl
        go_simp
        try rfl
      simp only [Act.put, List.setIfInBounds_toArray, List.set_cons_zero, List.set_cons_succ, List.getElem_toArray, List.getElem_cons_succ, List.getElem_cons_zero]
      refine wpAnyH_take (i := 22) (v := ?_) rfl (by kernel_rfl) (by kernel_rfl) (by kernel_rfl) (fun _ _ _ h => h) (Or.inl ⟨by kernel_rfl, ?_⟩) hH4 ?_
      rotate_left
      · intro W hS
        go_simp
        try rfl
      simp only [Act.put, List.setIfInBounds_toArray, List.set_cons_zero, List.set_cons_succ, List.getElem_toArray, List.getElem_cons_succ, List.getElem_cons_zero]
      refine wpAnyH_take (i := 23) (v := ?_) rfl (by kernel_rfl) (by kernel_rfl) (by kernel_rfl) (fun _ _ _ h => h) (Or.inl ⟨by kernel_rfl, ?_⟩) hH4 ?_
      rotate_left
      · intro W hS
        go_simp
        try rfl
      simp only [Act.put, List.setIfInBounds_toArray, List.set_cons_zero, List.set_cons_succ, List.getElem_toArray, List.getElem_cons_succ, List.getElem_cons_zero]
      refine wpAnyH_take (i := 24) (v := ?_) rfl (by kernel_rfl) (by kernel_rfl) (by kernel_rfl) (fun _ _ _ h => h) (Or.inl ⟨by kernel_rfl, ?_⟩) hH4 ?_
      rotate_left
      · intro W hS
        go_simp
        try rfl
      simp only [Act.put, List.setIfInBounds_toArray, List.set_cons_zero, List.set_cons_succ, List.getElem_toArray, List.getElem_cons_succ, List.getElem_cons_zero]
      refine wpAnyH_take (i := 25) (v := ?_) rfl (by kernel_rfl) (by kernel_rfl) (by kernel_rfl) (fun _ _ _ h => h) (Or.inl ⟨by kernel_rfl, ?_⟩) hH4 ?_
      rotate_left
      · intro W hS
        go_simp
        try rfl
      simp only [Act.put, List.setIfInBounds_toArray, List.set_cons_zero, List.set_cons_succ, List.getElem_toArray, List.getElem_cons_succ, List.getElem_cons_zero]
      refine wpAnyH_take (i := 26) (v := ?_) rfl (by kernel_rfl) (by kernel_rfl) (by kernel_rfl) (fun _ _ _ h => h) (Or.inl ⟨by kernel_rfl, ?_⟩) hH4 ?_
      rotate_left
      · intro W hS
        go_simp
        try rfl
      simp only [Act.put, List.setIfInBounds_toArray, List.set_cons_zero, List.set_cons_succ, List.getElem_toArray, List.getElem_cons_succ, List.getElem_cons_zero]
      refine wpAnyH_take (i := 27) (v := inV (iE i)) rfl (by kernel_rfl) (by kernel_rfl) (by kernel_rfl) (fun _ _ _ h => h) (Or.inl ⟨by kernel_rfl, ?_⟩) hH4 ?_
      · intro W hS
        exact run_load_row (by rfl) (by rfl) 26 _ (0, 0) _ hS.2.2.2.2.1.h Tryd.underlying26 rfl (szIn (iE i))
      simp only [Act.put, List.setIfInBounds_toArray, List.set_cons_zero, List.set_cons_succ]
      refine wpAnyH_ready (rs := [28]) (by kernel_rfl) (by simp) ?_
      refine AllReadyH.cons rfl (fun K hK => ?_) AllReadyH.nil
      go_simp
      with_reducible refine (qE.out _ tabs).mono ?_
      rintro e v4 ⟨rfl, bb⟩
      have hH5 := And.intro (hH4.1.below bb hH4.1.lt) (And.intro (hH4.2.1.below bb hH4.2.1.lt) (And.intro (hH4.2.2.1.below bb hH4.2.2.1.lt) (And.intro (hH4.2.2.2.1.below bb hH4.2.2.2.1.lt) (And.intro (hH4.2.2.2.2.1.below bb hH4.2.2.2.2.1.lt) (And.intro (hH4.2.2.2.2.2.1.below bb hH4.2.2.2.2.2.1.lt) (hH4.2.2.2.2.2.2.below bb hH4.2.2.2.2.2.2.lt))))))
      replace tabs := tabs.below bb
      replace kb := kb.trans (bb.mono hSB)
      replace hSB := Nat.le_trans hSB bb.size
      clear bb
      refine hK.out _ _ hH5 (fun _ => ?_)
      clear hK K
      try simp only [Act.put, List.setIfInBounds_toArray, List.set_cons_zero, List.set_cons_succ]
      refine wpAnyH_take (i := 29) (v := ?_) rfl (by kernel_rfl) (by kernel_rfl) (by kernel_rfl) (fun _ _ _ h => h) (Or.inl ⟨by kernel_rfl, ?_⟩) hH5 ?_
      rotate_left
      · intro W hS
        go_simp
        try rfl
      simp only [Act.put, List.setIfInBounds_toArray, List.set_cons_zero, List.set_cons_succ, List.getElem_toArray, List.getElem_cons_succ, List.getElem_cons_zero]
      refine wpAnyH_take (i := 30) (v := ?_) rfl (by kernel_rfl) (by kernel_rfl) (by kernel_rfl) (fun _ _ _ h => h) (Or.inl ⟨by kernel_rfl, ?_⟩) hH5 ?_
      rotate_left
      · intro W hS
        go_simp
        try rfl
      simp only [Act.put, List.setIfInBounds_toArray, List.set_cons_zero, List.set_cons_succ, List.getElem_toArray, List.getElem_cons_succ, List.getElem_cons_zero]
      refine wpAnyH_take (i := 31) (v := ?_) rfl (by kernel_rfl) (by kernel_rfl) (by kernel_rfl) (fun _ _ _ h => h) (Or.inl ⟨by kernel_rfl, ?_⟩) hH5 ?_
      rotate_left
      · intro W hS
        go_simp
        try rfl
      simp only [Act.put, List.setIfInBounds_toArray, List.set_cons_zero, List.set_cons_succ, List.getElem_toArray, List.getElem_cons_succ, List.getElem_cons_zero]
      refine wpAnyH_take (i := 32) (v := inV (iF i c)) rfl (by kernel_rfl) (by kernel_rfl) (by kernel_rfl) (fun _ _ _ h => h) (Or.inl ⟨by kernel_rfl, ?_⟩) hH5 ?_
      · intro W hS
        exact run_load_row (by rfl) (by rfl) 26 _ (0, 0) _ hS.2.2.2.2.2.1.h Tryd.underlying26 rfl (szIn (iF i c))
      simp only [Act.put, List.setIfInBounds_toArray, List.set_cons_zero, List.set_cons_succ]
      refine wpAnyH_take (i := 34) (v := ?_) rfl (by kernel_rfl) (by kernel_rfl) (by kernel_rfl) (fun _ _ _ h => h) (Or.inl ⟨by kernel_rfl, ?_⟩) hH5 ?_
      rotate_left
      · intro W hS
        go_simp
        try rfl
      simp only [Act.put, List.setIfInBounds_toArray, List.set_cons_zero, List.set_cons_succ, List.getElem_toArray, List.getElem_cons_succ, List.getElem_cons_zero]
      refine wpAnyH_ready (rs := [33]) (by kernel_rfl) (by simp) ?_
      refine AllReadyH.cons rfl (fun K hK => ?_) AllReadyH.nil
      go_simp
      with_reducible refine (qF.out _ tabs).mono ?_
      rintro e v5 ⟨rfl, bb⟩
      have hH6 := And.intro (hH5.1.below bb hH5.1.lt) (And.intro (hH5.2.1.below bb hH5.2.1.lt) (And.intro (hH5.2.2.1.below bb hH5.2.2.1.lt) (And.intro (hH5.2.2.2.1.below bb hH5.2.2.2.1.lt) (And.intro (hH5.2.2.2.2.1.below bb hH5.2.2.2.2.1.lt) (And.intro (hH5.2.2.2.2.2.1.below bb hH5.2.2.2.2.2.1.lt) (hH5.2.2.2.2.2.2.below bb hH5.2.2.2.2.2.2.lt))))))
      replace tabs := tabs.below bb
      replace kb := kb.trans (bb.mono hSB)
      replace hSB := Nat.le_trans hSB bb.size
      clear bb
      refine hK.out _ _ hH6 (fun _ => ?_)
      clear hK K
      try simp only [Act.put, List.setIfInBounds_toArray, List.set_cons_zero, List.set_cons_succ]
      refine wpAnyH_take (i := 35) (v := ?_) rfl (by kernel_rfl) (by kernel_rfl) (by kernel_rfl) (fun _ _ _ h => h) (Or.inl ⟨by kernel_rfl, ?_⟩) hH6 ?_
      rotate_left
      · intro W hS
        go_simp
        try rfl
      simp only [Act.put, List.setIfInBounds_toArray, List.set_cons_zero, List.set_cons_succ, List.getElem_toArray, List.getElem_cons_succ, List.getElem_cons_zero]
      refine wpAnyH_take (i := 36) (v := ?_) rfl (by kernel_rfl) (by kernel_rfl) (by kernel_rfl) (fun _ _ _ h => h) (Or.inl ⟨by kernel_rfl, ?_⟩) hH6 ?_
      rotate_left
      · intro W hS
        go_simp
        try rfl
      simp only [Act.put, List.setIfInBounds_toArray, List.set_cons_zero, List.set_cons_succ, List.getElem_toArray, List.getElem_cons_succ, List.getElem_cons_zero]
      refine wpAnyH_take (i := 37) (v := ?_) rfl (by kernel_rfl) (by kernel_rfl) (by kernel_rfl) (fun _ _ _ h => h) (Or.inl ⟨by kernel_rfl, ?_⟩) hH6 ?_
      rotate_left
      · intro W hS
        go_simp
        try rfl
      simp only [Act.put, List.setIfInBounds_toArray, List.set_cons_zero, List.set_cons_succ, List.getElem_toArray, List.getElem_cons_succ, List.getElem_cons_zero]
      refine wpAnyH_done (by kernel_rfl) ?_ _
      go_wp2_with fail
      go_ret
      exact ⟨rfl, hN ▸ kb⟩
    · skip
      refine wpAnyH_ready (rs := [15]) (by kernel_rfl) (by simp) ?_
      refine AllReadyH.cons rfl (fun K hK => ?_) AllReadyH.nil
      go_simp
      with_reducible refine (qD.out _ tabs).mono ?_
      rintro e v3 ⟨rfl, bb⟩
      have hH4 := And.intro (hH3.1.below bb hH3.1.lt) (And.intro (hH3.2.1.below bb hH3.2.1.lt) (And.intro (hH3.2.2.1.below bb hH3.2.2.1.lt) (And.intro (hH3.2.2.2.1.below bb hH3.2.2.2.1.lt) (And.intro (hH3.2.2.2.2.1.below bb hH3.2.2.2.2.1.lt) (And.intro (hH3.2.2.2.2.2.1.below bb hH3.2.2.2.2.2.1.lt) (hH3.2.2.2.2.2.2.below bb hH3.2.2.2.2.2.2.lt))))))
      replace tabs := tabs.below bb
      replace kb := kb.trans (bb.mono hSB)
      replace hSB := Nat.le_trans hSB bb.size
      clear bb
      refine hK.out _ _ hH4 (fun _ => ?_)
      clear hK K
      try simp only [Act.put, List.setIfInBounds_toArray, List.set_cons_zero, List.set_cons_succ]
      refine wpAnyH_take (i := 19) (v := ?_) rfl (by kernel_rfl) (by kernel_rfl) (by kernel_rfl) (fun _ _ _ h => h) (Or.inl ⟨by kernel_rfl, ?_⟩) hH4 ?_
      rotate_left
      · intro W hS
        go_simp
        try rfl
      simp only [Act.put, List.setIfInBounds_toArray, List.set_cons_zero, List.set_cons_succ, List.getElem_toArray, List.getElem_cons_succ, List.getElem_cons_zero]
      refine wpAnyH_take (i := 20) (v := undef) rfl (by kernel_rfl) (by kernel_rfl) (by kernel_rfl) (fun _ _ _ h => h) (Or.inr ⟨by kernel_rfl, rfl⟩) hH4 ?_
      simp only [Act.put, List.setIfInBounds_toArray, List.set_cons_zero, List.set_cons_succ]
      refine wpAnyH_take (i := 21) (v := undef) rfl (by kernel_rfl) (by kernel_rfl) (by kernel_rfl) (fun _ _ _ h => h) (Or.inr ⟨by kernel_rfl, rfl⟩) hH4 ?_
      simp only [Act.put, List.setIfInBounds_toArray, List.set_cons_zero, List.set_cons_succ]
      refine wpAnyH_take (i := 22) (v := undef) rfl (by kernel_rfl) (by kernel_rfl) (by kernel_rfl) (fun _ _ _ h => h) (Or.inr ⟨by kernel_rfl, rfl⟩) hH4 ?_
      simp only [Act.put, List.setIfInBounds_toArray, List.set_cons_zero, List.set_cons_succ]
      refine wpAnyH_take (i := 23) (v := ?_) rfl (by kernel_rfl) (by kernel_rfl) (by kernel_rfl) (fun _ _ _ h => h) (Or.inl ⟨by kernel_rfl, ?_⟩) hH4 ?_
      rotate_left
      · intro W hS
        go_simp
        try rfl
      simp only [Act.put, List.setIfInBounds_toArray, List.set_cons_zero, List.set_cons_succ, List.getElem_toArray, List.getElem_cons_succ, List.getElem_cons_zero]
      refine wpAnyH_take (i := 24) (v := ?_) rfl (by kernel_rfl) (by kernel_rfl) (by kernel_rfl) (fun _ _ _ h => h) (Or.inl ⟨by kernel_rfl, ?_⟩) hH4 ?_
      rotate_left
      · intro W hS
        go_simp
        try rfl
      simp only [Act.put, List.setIfInBounds_toArray, List.set_cons_zero, List.set_cons_succ, List.getElem_toArray, List.getElem_cons_succ, List.getElem_cons_zero]
      refine wpAnyH_take (i := 25) (v := ?_) rfl (by kernel_rfl) (by kernel_rfl) (by kernel_rfl) (fun _ _ _ h => h) (Or.inl ⟨by kernel_rfl, ?_⟩) hH4 ?_
      rotate_left
      · intro W hS
        go_simp
        try rfl
      simp only [Act.put, List.setIfInBounds_toArray, List.set_cons_zero, List.set_cons_succ, List.getElem_toArray, List.getElem_cons_succ, List.getElem_cons_zero]
      refine wpAnyH_take (i := 26) (v := ?_) rfl (by kernel_rfl) (by kernel_rfl) (by kernel_rfl) (fun _ _ _ h => h) (Or.inl ⟨by kernel_rfl, ?_⟩) hH4 ?_
      rotate_left
      · intro W hS
        go_simp
        try rfl
      simp only [Act.put, List.setIfInBounds_toArray, List.set_cons_zero, List.set_cons_succ, List.getElem_toArray, List.getElem_cons_succ, List.getElem_cons_zero]
      refine wpAnyH_take (i := 27) (v := inV (iE i)) rfl (by kernel_rfl) (by kernel_rfl) (by kernel_rfl) (fun _ _ _ h => h) (Or.inl ⟨by kernel_rfl, ?_⟩) hH4 ?_
      · intro W hS
        exact run_load_row (by rfl) (by rfl) 26 _ (0, 0) _ hS.2.2.2.2.1.h Tryd.underlying26 rfl (szIn (iE i))
      simp only [Act.put, List.setIfInBounds_toArray, List.set_cons_zero, List.set_cons_succ]
      refine wpAnyH_ready (rs := [28]) (by kernel_rfl) (by simp) ?_
      refine AllReadyH.cons rfl (fun K hK => ?_) AllReadyH.nil
      go_simp
      with_reducible refine (qE.out _ tabs).mono ?_
      rintro e v4 ⟨rfl, bb⟩
      have hH5 := And.intro (hH4.1.below bb hH4.1.lt) (And.intro (hH4.2.1.below bb hH4.2.1.lt) (And.intro (hH4.2.2.1.below bb hH4.2.2.1.lt) (And.intro (hH4.2.2.2.1.below bb hH4.2.2.2.1.lt) (And.intro (hH4.2.2.2.2.1.below bb hH4.2.2.2.2.1.lt) (And.intro (hH4.2.2.2.2.2.1.below bb hH4.2.2.2.2.2.1.lt) (hH4.2.2.2.2.2.2.below bb hH4.2.2.2.2.2.2.lt))))))
      replace tabs := tabs.below bb
      replace kb := kb.trans (bb.mono hSB)
      replace hSB := Nat.le_trans hSB bb.size
      clear bb
      refine hK.out _ _ hH5 (fun _ => ?_)
      clear hK K
      try simp only [Act.put, List.setIfInBounds_toArray, List.set_cons_zero, List.set_cons_succ]
      refine wpAnyH_take (i := 29) (v := ?_) rfl (by kernel_rfl) (by kernel_rfl) (by kernel_rfl) (fun _ _ _ h => h) (Or.inl ⟨by kernel_rfl, ?_⟩) hH5 ?_
      rotate_left
      · intro W hS
        go_simp
        try rfl
      simp only [Act.put, List.setIfInBounds_toArray, List.set_cons_zero, List.set_cons_succ, List.getElem_toArray, List.getElem_cons_succ, List.getElem_cons_zero]
      refine wpAnyH_take (i := 30) (v := ?_) rfl (by kernel_rfl) (by kernel_rfl) (by kernel_rfl) (fun _ _ _ h => h) (Or.inl ⟨by kernel_rfl, ?_⟩) hH5 ?_
      rotate_left
      · intro W hS
        go_simp
        try rfl
      simp only [Act.put, List.setIfInBounds_toArray, List.set_cons_zero, List.set_cons_succ, List.getElem_toArray, List.getElem_cons_succ, List.getElem_cons_zero]
      refine wpAnyH_take (i := 31) (v := ?_) rfl (by kernel_rfl) (by kernel_rfl) (by kernel_rfl) (fun _ _ _ h => h) (Or.inl ⟨by kernel_rfl, ?_⟩) hH5 ?_
      rotate_left
      · intro W hS
        go_simp
        try rfl
      simp only [Act.put, List.setIfInBounds_toArray, List.set_cons_zero, List.set_cons_succ, List.getElem_toArray, List.getElem_cons_succ, List.getElem_cons_zero]
      refine wpAnyH_take (i := 32) (v := inV (iF i c)) rfl (by kernel_rfl) (by kernel_rfl) (by kernel_rfl) (fun _ _ _ h => h) (Or.inl ⟨by kernel_rfl, ?_⟩) hH5 ?_
      · intro W hS
        exact run_load_row (by rfl) (by rfl) 26 _ (0, 0) _ hS.2.2.2.2.2.1.h Tryd.underlying26 rfl (szIn (iF i c))
      simp only [Act.put, List.setIfInBounds_toArray, List.set_cons_zero, List.set_cons_succ]
      refine wpAnyH_take (i := 34) (v := ?_) rfl (by kernel_rfl) (by kernel_rfl) (by kernel_rfl) (fun _ _ _ h => h) (Or.inl ⟨by kernel_rfl, ?_⟩) hH5 ?_
      rotate_left
      · intro W hS
        go_simp
        try rfl
      simp only [Act.put, List.setIfInBounds_toArray, List.set_cons_zero, List.set_cons_succ, List.getElem_toArray, List.getElem_cons_succ, List.getElem_cons_zero]
      refine wpAnyH_ready (rs := [33]) (by kernel_rfl) (by simp) ?_
      refine AllReadyH.cons rfl (fun K hK => ?_) AllReadyH.nil
      go_simp
      with_reducible refine (qF.out _ tabs).mono ?_
      rintro e v5 ⟨rfl, bb⟩
      have hH6 := And.intro (hH5.1.below bb hH5.1.lt) (And.intro (hH5.2.1.below bb hH5.2.1.lt) (And.intro (hH5.2.2.1.below bb hH5.2.2.1.lt) (And.intro (hH5.2.2.2.1.below bb hH5.2.2.2.1.lt) (And.intro (hH5.2.2.2.2.1.below bb hH5.2.2.2.2.1.lt) (And.intro (hH5.2.2.2.2.2.1.below bb hH5.2.2.2.2.2.1.lt) (hH5.2.2.2.2.2.2.below bb hH5.2.2.2.2.2.2.lt))))))
      replace tabs := tabs.below bb
      replace kb := kb.trans (bb.mono hSB)
      replace hSB := Nat.le_trans hSB bb.size
      clear bb
      refine hK.out _ _ hH6 (fun _ => ?_)
      clear hK K
      try simp only [Act.put, List.setIfInBounds_toArray, List.set_cons_zero, List.set_cons_succ]
      refine wpAnyH_take (i := 35) (v := ?_) rfl (by kernel_rfl) (by kernel_rfl) (by kernel_rfl) (fun _ _ _ h => h) (Or.inl ⟨by kernel_rfl, ?_⟩) hH6 ?_
      rotate_left
      · intro W hS
        go_simp
        try rfl
      simp only [Act.put, List.setIfInBounds_toArray, List.set_cons_zero, List.set_cons_succ, List.getElem_toArray, List.getElem_cons_succ, List.getElem_cons_zero]
      refine wpAnyH_take (i := 36) (v := ?_) rfl (by kernel_rfl) (by kernel_rfl) (by kernel_rfl) (fun _ _ _ h => h) (Or.inl ⟨by kernel_rfl, ?_⟩) hH6 ?_
      rotate_left
      · intro W hS
        go_simp
        try rfl
      simp only [Act.put, List.setIfInBounds_toArray, List.set_cons_zero, List.set_cons_succ, List.getElem_toArray, List.getElem_cons_succ, List.getElem_cons_zero]
      refine wpAnyH_take (i := 37) (v := ?_) rfl (by kernel_rfl) (by kernel_rfl) (by kernel_rfl) (fun _ _ _ h => h) (Or.inl ⟨by kernel_rfl, ?_⟩) hH6 ?_
      rotate_left
      · intro W hS
        go_simp
        try rfl
      simp only [Act.put, List.setIfInBounds_toArray, List.set_cons_zero, List.set_cons_succ, List.getElem_toArray, List.getElem_cons_succ, List.getElem_cons_zero]
      refine wpAnyH_done (by kernel_rfl) ?_ _
      go_wp2_with fail
      go_ret
      exact ⟨rfl, hN ▸ kb⟩
end Go.Proofs.YtobllhibicjbcaaDoor
