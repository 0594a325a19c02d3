import Derived.Deep.RegionHeld
import Derived.Test.YtcdoidnfdkodoaaGreatDoorS00
namespace Go.Proofs.YtcdoidnfdkodoaaGreatDoor
open Go.RowKit
set_option linter.unusedVariables false
set_option linter.unusedSimpArgs false
set_option linter.unusedSectionVars false
def dstOf (ops : Array Oper) (i : Nat) : Option Tmp := (ops[i]?).bind (·.dst)
structure Fits (ops : Array Oper) (a0 : Act) (v : Nat → Value) (D : Nat → Bool) (a : Act) : Prop where
  dfs : a.defers = a0.defers
  size : a.tmps.size = a0.tmps.size
  out : ∀ t, (∀ i, D i = true → dstOf ops i ≠ some t) → a.tmps[t]? = a0.tmps[t]?
  own : ∀ i t, D i = true → dstOf ops i = some t → t < a0.tmps.size → a.tmps[t]? = some (v i)
def putV (v : Nat → Value) : Nat → List (Option Tmp) → Act → Act
  | _, [], a => a
  | n, d :: r, a => putV v (n + 1) r (a.put d (v n))
def putD : List (Option Tmp) → List Value → Act → Act
  | d :: r, v :: vs, a => putD r vs (a.put d v)
  | _, _, a => a
def vsOf (N : Nat → Nat) : Nat → List (Option Value) → List Value
  | _, [] => []
  | n, some v :: r => v :: vsOf N (n + 1) r
  | n, none :: r => .pointer (some ⟨N n, 0, none⟩) :: vsOf N (n + 1) r
def valOf (es : List (Option Value)) (N : Nat → Nat) (j : Nat) : Value := (vsOf N 0 es).getD j undef
theorem vsOf_length (N : Nat → Nat) : ∀ (es : List (Option Value)) (n : Nat), (vsOf N n es).length = es.length
  | [], _ => rfl
  | some v :: r, n => by simp [vsOf, vsOf_length N r (n + 1)]
  | none :: r, n => by simp [vsOf, vsOf_length N r (n + 1)]
theorem vsOf_agree {N N' : Nat → Nat} : ∀ (es : List (Option Value)) (n k : Nat), N' (n + k) = N (n + k) → (vsOf N' n es).getD k undef = (vsOf N n es).getD k undef
  | [], _, _, _ => rfl
  | some v :: r, n, 0, _ => rfl
  | none :: r, n, 0, h => by
    simp only [vsOf, List.getD_cons_zero]
    rw [show N' n = N n from h]
  | some v :: r, n, k + 1, h => by
    simp only [vsOf, List.getD_cons_succ]
    exact vsOf_agree r (n + 1) k (by rw [show n + 1 + k = n + (k + 1) from by omega]; exact h)
  | none :: r, n, k + 1, h => by
    simp only [vsOf, List.getD_cons_succ]
    exact vsOf_agree r (n + 1) k (by rw [show n + 1 + k = n + (k + 1) from by omega]; exact h)
theorem valOf_agree {es : List (Option Value)} {N N' : Nat → Nat} {j : Nat} (h : N' j = N j) : valOf es N' j = valOf es N j :=
  vsOf_agree es 0 j (by simpa using h)
theorem putD_eq (v : Nat → Value) : ∀ (ds : List (Option Tmp)) (vs : List Value) (n : Nat) (a : Act), ds.length = vs.length →
    (∀ k, k < ds.length → v (n + k) = vs.getD k undef) → putD ds vs a = putV v n ds a
  | [], _, _, _, _, _ => rfl
  | d :: r, [], _, _, h, _ => by simp at h
  | d :: r, x :: vs, n, a, hl, h => by
    have h0 := h 0 (by simp)
    simp only [Nat.add_zero, List.getD_cons_zero] at h0
    simp only [putD, putV, h0]
    exact putD_eq v r vs (n + 1) _ (by simpa using hl) (fun k hk => by
      have := h (k + 1) (by simp; omega)
      simp only [List.getD_cons_succ] at this
      rw [← this]
      congr 1
      omega)
def regionPlain (ops : Array Oper) : Bool :=
  Region.noSelect ops && (List.range ops.size).all fun i => match ops[i]? with
    | none => true
    | some o => o.after.all (fun e => !Region.binds .any e || decide (e.on < i)) &&
      (List.range ops.size).all fun j => match dstOf ops j with
        | none => true
        | some t => (j == i || o.dst != some t) && (!(o.looksAt ops).contains t || (j != i && o.after.any (fun e => Region.binds .any e && e.on == j)))
structure Plain (ops : Array Oper) : Prop where
  sel : ∀ (j : Nat) (o : Oper) (cs : Array SelectCase) (b : Bool), ops[j]? = some o → o.op ≠ .select cs b
  lt : ∀ (i : Nat) (o : Oper), ops[i]? = some o → ∀ e ∈ o.after, Region.binds .any e = true → e.on < i
  one : ∀ (i : Nat) (o : Oper), ops[i]? = some o → ∀ j t, dstOf ops j = some t → j ≠ i → o.dst ≠ some t
  look : ∀ (i : Nat) (o : Oper), ops[i]? = some o → ∀ j t, dstOf ops j = some t → t ∈ o.looksAt ops → ∃ e ∈ o.after, Region.binds .any e = true ∧ e.on = j
theorem dst_lt {ops : Array Oper} {j t : Nat} (h : dstOf ops j = some t) : j < ops.size := by
  unfold dstOf at h
  rcases Nat.lt_or_ge j ops.size with h' | h'
  · exact h'
  · rw [Array.getElem?_eq_none h'] at h; cases h
theorem plain_of {ops : Array Oper} (h : regionPlain ops = true) : Plain ops := by
  unfold regionPlain at h
  rw [Bool.and_eq_true, List.all_eq_true] at h
  obtain ⟨h1, h2⟩ := h
  have key : ∀ i o, ops[i]? = some o → (∀ e ∈ o.after, (!Region.binds .any e || decide (e.on < i)) = true) ∧ ∀ j t, dstOf ops j = some t →
      ((j == i || o.dst != some t) && (!(o.looksAt ops).contains t || (j != i && o.after.any (fun e => Region.binds .any e && e.on == j)))) = true := by
    intro i o ho
    have hi : i < ops.size := (Array.getElem?_eq_some_iff.1 ho).1
    have h3 := h2 i (List.mem_range.2 hi)
    simp only [ho] at h3
    rw [Bool.and_eq_true, Array.all_eq_true_iff_forall_mem, List.all_eq_true] at h3
    refine ⟨h3.1, fun j t hj => ?_⟩
    have h4 := h3.2 j (List.mem_range.2 (dst_lt hj))
    simp only [hj] at h4
    exact h4
  refine ⟨fun j o cs b ho => Region.noSelect_spec h1 j o cs b ho, fun i o ho e he hb => ?_, fun i o ho j t hj hne => ?_, fun i o ho j t hj ht => ?_⟩
  · have := (key i o ho).1 e he
    simpa [hb] using this
  · have := (key i o ho).2 j t hj
    rw [Bool.and_eq_true] at this
    have h5 := this.1
    simp only [Bool.or_eq_true, beq_iff_eq, hne, false_or, bne_iff_ne, ne_eq] at h5
    exact h5
  · have := (key i o ho).2 j t hj
    rw [Bool.and_eq_true] at this
    have h5 := this.2
    have h6 : (o.looksAt ops).contains t = true := by simpa using ht
    rw [h6] at h5
    simp only [Bool.not_true, Bool.false_or, Bool.and_eq_true] at h5
    obtain ⟨e, he, hb⟩ := Array.any_eq_true'.1 h5.2
    simp only [Bool.and_eq_true, beq_iff_eq] at hb
    exact ⟨e, he, hb.1, hb.2⟩
section
variable {ops : Array Oper} {a0 a : Act} {v v' : Nat → Value} {D : Nat → Bool}
theorem Fits.start (ops : Array Oper) (a0 : Act) (v : Nat → Value) : Fits ops a0 v (fun _ => false) a0 :=
  ⟨rfl, rfl, fun _ _ => rfl, fun _ _ h => by cases h⟩
theorem Fits.congr (f : Fits ops a0 v D a) (h : ∀ j, D j = true → v' j = v j) : Fits ops a0 v' D a :=
  ⟨f.dfs, f.size, f.out, fun i t hi ht hl => by rw [h i hi]; exact f.own i t hi ht hl⟩
theorem Fits.put (one : ∀ (i : Nat) (o : Oper), ops[i]? = some o → ∀ (j : Nat) (t : Tmp), dstOf ops j = some t → j ≠ i → o.dst ≠ some t) (f : Fits ops a0 v D a) {i : Nat} {o : Oper} (ho : ops[i]? = some o) :
    Fits ops a0 v (fun j => j == i || D j) (a.put o.dst (v i)) := by
  have hdi : dstOf ops i = o.dst := by simp [dstOf, ho]
  cases hd : o.dst with
  | none =>
    rw [hd] at hdi
    refine ⟨f.dfs, f.size, fun t ht => f.out t fun j hj => ht j (by simp [hj]), fun j t hj ht hl => ?_⟩
    simp only [Bool.or_eq_true, beq_iff_eq] at hj
    rcases hj with rfl | hj
    · rw [hdi] at ht; cases ht
    · exact f.own j t hj ht hl
  | some d =>
    rw [hd] at hdi
    refine ⟨f.dfs, by simp [Act.put, f.size], fun t ht => ?_, fun j t hj ht hl => ?_⟩
    · have hne : d ≠ t := fun e => ht i (by simp) (by rw [hdi, e])
      simp only [Act.put]
      rw [Array.getElem?_setIfInBounds_ne hne]
      exact f.out t fun j hj => ht j (by simp [hj])
    · simp only [Act.put]
      by_cases hji : j = i
      · subst hji
        rw [hdi] at ht
        cases ht
        rw [Array.getElem?_setIfInBounds_self_of_lt (by rw [f.size]; exact hl)]
      · have hne : d ≠ t := fun e => one i o ho j t ht hji (by rw [hd, e])
        rw [Array.getElem?_setIfInBounds_ne hne]
        simp only [Bool.or_eq_true, beq_iff_eq, hji, false_or] at hj
        exact f.own j t hj ht hl
theorem Fits.all (one : ∀ (i : Nat) (o : Oper), ops[i]? = some o → ∀ (j : Nat) (t : Tmp), dstOf ops j = some t → j ≠ i → o.dst ≠ some t) : ∀ (r : List (Option Tmp)) (n : Nat) (a : Act), (∀ k, k < r.length → ∃ o, ops[n + k]? = some o ∧ r[k]? = some o.dst) →
    Fits ops a0 v (fun j => decide (j < n)) a → Fits ops a0 v (fun j => decide (j < n + r.length)) (putV v n r a)
  | [], n, a, _, f => f
  | d :: r, n, a, h, f => by
    obtain ⟨o, ho, hd⟩ := h 0 (by simp)
    simp only [Nat.add_zero, List.getElem?_cons_zero, Option.some.injEq] at ho hd
    have f1 := f.put one ho
    rw [show (fun j => j == n || decide (j < n)) = (fun j => decide (j < n + 1)) from funext fun j => by
      rw [Bool.eq_iff_iff]; simp only [Bool.or_eq_true, beq_iff_eq, decide_eq_true_eq]; omega] at f1
    have := Fits.all one r (n + 1) (a.put o.dst (v n)) (fun k hk => by
      obtain ⟨o', h1, h2⟩ := h (k + 1) (by simp; omega)
      exact ⟨o', by rw [show n + 1 + k = n + (k + 1) from by omega]; exact h1, by simpa using h2⟩) f1
    rw [show n + 1 + r.length = n + (d :: r).length from by simp; omega] at this
    rw [hd]
    exact this
theorem Fits.see {b : Act} (f : Fits ops a0 v D a) (g : Fits ops a0 v (fun j => decide (j < ops.size)) b) {o : Oper}
    (hl : ∀ (j : Nat) (t : Tmp), dstOf ops j = some t → t ∈ o.looksAt ops → D j = true) {t : Tmp} (ht : t ∈ o.looksAt ops) : a.tmps[t]? = b.tmps[t]? := by
  by_cases h : ∃ j, dstOf ops j = some t
  · obtain ⟨j, hj⟩ := h
    have hD := hl j t hj ht
    rcases Nat.lt_or_ge t a0.tmps.size with hl | hl
    · rw [f.own _ _ hD hj hl, g.own _ _ (by simpa using dst_lt hj) hj hl]
    · rw [Array.getElem?_eq_none (by rw [f.size]; exact hl), Array.getElem?_eq_none (by rw [g.size]; exact hl)]
  · rw [f.out t (fun j _ hj => h ⟨j, hj⟩), g.out t (fun j _ hj => h ⟨j, hj⟩)]
theorem Fits.exec {b : Act} (f : Fits ops a0 v D a) (g : Fits ops a0 v (fun j => decide (j < ops.size)) b) {o : Oper} (hs : ∀ cs bb, o.op ≠ .select cs bb)
    (hl : ∀ (j : Nat) (t : Tmp), dstOf ops j = some t → t ∈ o.looksAt ops → D j = true) : execOp a.eval o = execOp b.eval o :=
  execOp_congr o hs fun x hx => by
    cases x with
    | tmp t =>
      have h := f.see g hl (t := t) (List.mem_append_left _ (List.mem_filterMap.2 ⟨.tmp t, by simpa using hx, rfl⟩))
      simp only [Act.eval, Array.getD_eq_getD_getElem?, h]
    | _ => rfl
theorem Fits.want {b : Act} (f : Fits ops a0 v D a) (g : Fits ops a0 v (fun j => decide (j < ops.size)) b) {o : Oper}
    (hl : ∀ (j : Nat) (t : Tmp), dstOf ops j = some t → t ∈ o.looksAt ops → D j = true) : Region.wanted o (yielded ops a.tmps) = Region.wanted o (yielded ops b.tmps) := by
  unfold Region.wanted
  cases hg : o.guard with
  | none => rfl
  | some gw =>
    obtain ⟨k, want⟩ := gw
    have hy : yielded ops a.tmps k = yielded ops b.tmps k := by
      unfold yielded
      cases ht : (ops[k]?).bind (·.dst) with
      | none => rfl
      | some t =>
        have h := f.see g hl (t := t) (by simp [Oper.looksAt, hg, ht])
        simp only [Option.bind_some, h]
    simp only [hy]
theorem Fits.same {b : Act} (f : Fits ops a0 v (fun j => decide (j < ops.size)) a) (g : Fits ops a0 v (fun j => decide (j < ops.size)) b) : a = b := by
  have ht : a.tmps = b.tmps := by
    apply Array.ext_getElem?
    intro t
    by_cases h : ∃ j, dstOf ops j = some t
    · obtain ⟨j, hj⟩ := h
      rcases Nat.lt_or_ge t a0.tmps.size with hl | hl
      · rw [f.own _ _ (by simpa using dst_lt hj) hj hl, g.own _ _ (by simpa using dst_lt hj) hj hl]
      · rw [Array.getElem?_eq_none (by rw [f.size]; exact hl), Array.getElem?_eq_none (by rw [g.size]; exact hl)]
    · rw [f.out t (fun j _ hj => h ⟨j, hj⟩), g.out t (fun j _ hj => h ⟨j, hj⟩)]
  have hd : a.defers = b.defers := f.dfs.trans g.dfs.symm
  cases a; cases b
  simp only at ht hd
  rw [ht, hd]
end
theorem put_same {F a : Act} (hs : F.tmps.size = a.tmps.size) {d : Option Tmp} {u x : Value} (h : F.put d u = F.put d x) : a.put d u = a.put d x := by
  cases d with
  | none => rfl
  | some d =>
    simp only [Act.put] at h ⊢
    rcases Nat.lt_or_ge d F.tmps.size with hl | hl
    · have h1 : (F.tmps.setIfInBounds d u)[d]? = (F.tmps.setIfInBounds d x)[d]? := by
        have := congrArg Act.tmps h
        simp only at this
        rw [this]
      rw [Array.getElem?_setIfInBounds_self_of_lt hl, Array.getElem?_setIfInBounds_self_of_lt hl] at h1
      cases h1
      rfl
    · rw [Array.setIfInBounds_eq_of_size_le (by omega), Array.setIfInBounds_eq_of_size_le (by omega)]
def OnP (Qp : List PanicEntry → World → Prop) : Exit → Act → World → Prop
  | .panic c, _, w => Qp c w
  | _, _, _ => False
theorem wp_move {P : Program} {o : Oper} {F a : Act} {w : World} {K next : Act → World → Prop} {Q : Exit → Act → World → Prop} {Qp : List PanicEntry → World → Prop} (hQ : ∀ c w, Qp c w → Q (.panic c) a w)
    (h : Oper.wp P o F w K (OnP Qp)) (he : execOp a.eval o = execOp F.eval o) (hn : ∀ u w', K (F.put o.dst u) w' → next (a.put o.dst u) w')
    (hd : ∀ (d : Deferred) w', ¬ K ({ F with defers := d :: F.defers }.put o.dst undef) w') : Oper.wp P o a w next Q := by
  unfold Oper.wp at *
  rw [he]
  generalize (execOp F.eval o).run P w = r at *
  cases r with
  | ok n w' =>
    cases n <;> simp only [Oper.upon] at h ⊢
    case value u => exact hn _ _ h
    case skip => exact hn _ _ h
    case defer d => exact absurd h (hd d w')
    case enter f args =>
      refine Calls.mono h fun e w'' hw => ?_
      cases e with
      | returned u => exact hn _ _ hw
      | panicked c => exact hQ _ _ hw
      | outgrown => obtain ⟨_, _, hf⟩ := hw; exact hf.elim
    case row row args => exact Rows.mono h fun u w'' hw => hn _ _ hw
  | halt x w' =>
    cases x <;> simp only [Oper.upon] at h ⊢
    case panic u => exact hQ _ _ h
def Closed (ops : Array Oper) (D : Nat → Bool) : Prop := ∀ (k : Nat) (o : Oper), ops[k]? = some o → D k = true → ∀ e ∈ o.after, Region.binds .any e = true → D e.on = true
def waits (ops : Array Oper) (j : Nat) : Nat → Nat → Bool
  | 0, _ => false
  | f + 1, i => match ops[i]? with
    | some o => o.after.any (fun e => Region.binds .any e && (e.on == j || waits ops j f e.on))
    | none => false
theorem waits_spec {ops : Array Oper} {D : Nat → Bool} (hcl : Closed ops D) {j : Nat} : ∀ (f i : Nat), waits ops j f i = true → D i = true → D j = true
  | 0, i, h, _ => by cases h
  | f + 1, i, h, hi => by
    unfold waits at h
    cases ho : ops[i]? with
    | none => rw [ho] at h; cases h
    | some o =>
      rw [ho] at h
      obtain ⟨e, he, h1⟩ := Array.any_eq_true'.1 h
      simp only [Bool.and_eq_true, Bool.or_eq_true, beq_iff_eq] at h1
      have h2 := hcl i o ho hi e he h1.1
      rcases h1.2 with h3 | h3
      · rw [← h3]; exact h2
      · exact waits_spec hcl f e.on h3 h2
def beforeB (ops : Array Oper) (dd i : Nat) : Bool := waits ops i 30 dd
theorem before_false {ops : Array Oper} {D : Nat → Bool} {dd i : Nat} (hcl : Closed ops D) (hd : D i = false) (hb : beforeB ops dd i = true) : D dd = false := by
  cases h2 : D dd with
  | false => rfl
  | true =>
    have := waits_spec hcl 30 dd hb h2
    rw [hd] at this
    cases this
def ObOp (Qp : List PanicEntry → World → Prop) (P : Program) (ops : Array Oper) (F : (Nat → Nat) → Act) (es : List (Option Value)) (I : (Nat → Nat) → (Nat → Bool) → World → Prop) (i : Nat) (o : Oper) : Prop :=
  ∀ (s : Nat → Nat) (D : Nat → Bool) (w : World), D i = false → Closed ops D → (∀ e ∈ o.after, Region.binds .any e = true → D e.on = true) → I s D w →
    ∀ K : Act → World → Prop, Shut (∀ a' w' s', a' = (F s).put o.dst (valOf es s' i) → (∀ j, D j = true → valOf es s' j = valOf es s j) → I s' (fun j => j == i || D j) w' → K a' w') →
      if Region.wanted o (yielded ops (F s).tmps) = true then Oper.wp P o (F s) w K (OnP Qp) else K ((F s).put o.dst undef) w
def AllOps (C : Nat → Oper → Prop) : Nat → List Oper → Prop
  | _, [] => True
  | n, o :: r => C n o ∧ AllOps C (n + 1) r
theorem AllOps.nil {C : Nat → Oper → Prop} {n : Nat} : AllOps C n [] := trivial
theorem AllOps.cons {C : Nat → Oper → Prop} {n : Nat} {o : Oper} {r : List Oper} (h : C n o) (k : AllOps C (n + 1) r) : AllOps C n (o :: r) := ⟨h, k⟩
theorem AllOps.get {C : Nat → Oper → Prop} : ∀ {r : List Oper} {n : Nat}, AllOps C n r → ∀ i o, r[i]? = some o → C (n + i) o
  | [], _, _, i, o, h => by simp at h
  | x :: r, n, hh, 0, o, h => by
    simp only [List.getElem?_cons_zero, Option.some.injEq] at h
    subst h
    exact hh.1
  | x :: r, n, hh, i + 1, o, h => by
    have := AllOps.get hh.2 i o (by simpa using h)
    rw [show n + (i + 1) = n + 1 + i from by omega]
    exact this
theorem getD_both {listed : Array Bool} {j : Nat} (h : j < listed.size) (a b : Bool) : listed.getD j a = listed.getD j b := by
  simp [h]
section
variable {P : Program} {ops : Array Oper} {Q : Exit → Act → World → Prop} {F : (Nat → Nat) → Act} {es : List (Option Value)} {I : (Nat → Nat) → (Nat → Bool) → World → Prop} {a0 : Act}
theorem count_false {l : List Bool} {i : Nat} (hi : l[i]? = some false) {n : Nat} (h : l.countP (! ·) ≤ n + 1) : (l.set i true).countP (! ·) ≤ n := by
  have hl : i < l.length := (List.getElem?_eq_some_iff.1 hi).1
  have hv : l[i] = false := (List.getElem?_eq_some_iff.1 hi).2
  rw [List.countP_set hl]
  simp only [hv, Bool.not_false, if_true, Bool.not_true, Bool.false_eq_true, if_false]
  omega
theorem wpAny_inv {Qp : List PanicEntry → World → Prop} (hQ : ∀ c a w, a.defers = a0.defers → Qp c w → Q (.panic c) a w) (hc : Plain ops) (hF : ∀ s, Fits ops a0 (valOf es s) (fun j => decide (j < ops.size)) (F s)) (hop : AllOps (ObOp Qp P ops F es I) 0 ops.toList)
    (hend : ∀ s w, I s (fun j => decide (j < ops.size)) w → Q .normal (F s) w) :
    ∀ (fuel : Nat) (listed : Array Bool) (a : Act) (w : World) (s : Nat → Nat), listed.size = ops.size → listed.toList.countP (! ·) ≤ fuel → Closed ops (fun j => listed.getD j false) →
      Fits ops a0 (valOf es s) (fun j => listed.getD j false) a → I s (fun j => listed.getD j false) w → wpAny P .any ops Q fuel listed a w := by
  have full : ∀ (listed : Array Bool) (a : Act) (w : World) (s : Nat → Nat), listed.size = ops.size → (∀ j, j < ops.size → listed.getD j true = true) →
      Fits ops a0 (valOf es s) (fun j => listed.getD j false) a → I s (fun j => listed.getD j false) w → Q .normal a w := by
    intro listed a w s hs hall f hI
    have hD : (fun j => listed.getD j false) = (fun j => decide (j < ops.size)) := funext fun j => by
      rcases Nat.lt_or_ge j ops.size with hl | hl
      · have := hall j hl
        rw [getD_both (by omega) false true, this]
        simp [hl]
      · have : ¬ j < listed.size := by omega
        simp [this, Nat.not_lt.2 hl]
    rw [hD] at f hI
    rw [f.same (hF s)]
    exact hend s w hI
  have ready : ∀ (listed : Array Bool), listed.size = ops.size → Region.ready .any ops listed = [] → ∀ j, j < ops.size → listed.getD j true = true := by
    intro listed hs hr j
    induction j using Nat.strongRecOn with
    | ind j ih =>
      intro hj
      cases hjt : listed.getD j true with
      | true => rfl
      | false =>
        exfalso
        have : j ∈ Region.ready .any ops listed := mem_ready.2 ⟨hjt, ops[j], Array.getElem?_eq_getElem hj, fun e he hb => by
          have hlt := hc.lt j _ (Array.getElem?_eq_getElem hj) e he hb
          have h1 := ih e.on hlt (by omega)
          rw [getD_both (by omega) false true]
          exact h1⟩
        rw [hr] at this
        cases this
  intro fuel
  induction fuel with
  | zero =>
    intro listed a w s hs hcount hcl f hI
    have hall : ∀ j, j < ops.size → listed.getD j true = true := by
      intro j hj
      have h0 : listed.toList.countP (! ·) = 0 := by omega
      rw [List.countP_eq_zero] at h0
      have h' : j < listed.size := by omega
      have := h0 listed[j] (by simp)
      simp [h']
      simpa using this
    refine ⟨?_, full listed a w s hs hall f hI⟩
    rw [List.eq_nil_iff_forall_not_mem]
    intro j hj
    have hm := mem_ready.1 hj
    obtain ⟨h0, o, ho, _⟩ := hm
    rw [hall j (Array.getElem?_eq_some_iff.1 ho).1] at h0
    cases h0
  | succ fuel ih =>
    intro listed a w s hs hcount hcl f hI
    refine ⟨fun hr => full listed a w s hs (ready listed hs hr) f hI, fun i hi => ?_⟩
    obtain ⟨h0, o, ho, hall⟩ := mem_ready.1 hi
    have hil : i < ops.size := (Array.getElem?_eq_some_iff.1 ho).1
    have hil' : i < listed.size := by omega
    have hDi : listed.getD i false = false := by
      rw [getD_both hil' false true]
      exact h0
    have hob := AllOps.get hop i o (by simpa using ho)
    rw [Nat.zero_add] at hob
    have h1 := hob s (fun j => listed.getD j false) w hDi hcl hall hI (fun a' w' => ∃ s', a' = (F s).put o.dst (valOf es s' i) ∧ (∀ j, listed.getD j false = true → valOf es s' j = valOf es s j) ∧ I s' (fun j => j == i || listed.getD j false) w')
      (fun a' w' s' ha hv hI' => ⟨s', ha, hv, hI'⟩)
    have hset : (fun j => (listed.setIfInBounds i true).getD j false) = (fun j => j == i || listed.getD j false) := funext fun j => by
      by_cases hji : j = i
      · subst hji; simp [hil']
      · rw [getD_set_ne false (Ne.symm hji)]; simp [hji]
    have hcnt : (listed.setIfInBounds i true).toList.countP (! ·) ≤ fuel := by
      rw [Array.toList_setIfInBounds]
      refine count_false ?_ hcount
      simp [hil'] at h0
      simp [hil', h0]
    have next : ∀ s' w', (∀ j, listed.getD j false = true → valOf es s' j = valOf es s j) → I s' (fun j => j == i || listed.getD j false) w' →
        wpAny P .any ops Q fuel (listed.setIfInBounds i true) (a.put o.dst (valOf es s' i)) w' := by
      intro s' w' hv hI'
      have f' := (f.congr hv).put hc.one ho
      have hcl' : Closed ops (fun j => j == i || listed.getD j false) := by
        intro k ok hk hD e he hb
        simp only [Bool.or_eq_true, beq_iff_eq] at hD ⊢
        rcases hD with rfl | hD
        · rw [ho] at hk
          cases hk
          exact .inr (hall e he hb)
        · exact .inr (hcl k ok hk hD e he hb)
      rw [← hset] at f' hI' hcl'
      exact ih _ _ _ s' (by simpa using hs) hcnt hcl' f' hI'
    have hsz : (F s).tmps.size = a.tmps.size := (hF s).size.trans f.size.symm
    have hl : ∀ (j : Nat) (t : Tmp), dstOf ops j = some t → t ∈ o.looksAt ops → listed.getD j false = true := fun j t hj ht => by
      obtain ⟨e, he, hb, rfl⟩ := hc.look i o ho j t hj ht
      exact hall e he hb
    unfold wpOp
    simp only [ho]
    rw [f.want (hF s) hl]
    split
    · rename_i hw
      rw [if_pos hw] at h1
      refine .inl (wp_move (fun c w => hQ c a w f.dfs) h1 (f.exec (hF s) (fun cs bb => hc.sel i o cs bb ho) hl) ?_ ?_)
      · rintro u w' ⟨s', hp, hv, hI'⟩
        rw [put_same hsz hp]
        exact next s' w' hv hI'
      · rintro d w' ⟨s', hp, _⟩
        have hdf := congrArg Act.defers hp
        cases hdst : o.dst <;> rw [hdst] at hdf <;> simp [Act.put] at hdf
    · rename_i hw
      rw [if_neg hw] at h1
      obtain ⟨s', hp, hv, hI'⟩ := h1
      rw [put_same hsz hp]
      exact next s' w hv hI'
theorem wp_region_inv {id : Nat} {w : World} (Qp : List PanicEntry → World → Prop) (hQ : ∀ c a w, a.defers = a0.defers → Qp c w → Q (.panic c) a w) (ds : List (Option Tmp)) (es : List (Option Value)) (I : (Nat → Nat) → (Nat → Bool) → World → Prop) (s0 : Nat → Nat) (hm : P.follows .mixedOrders = true)
    (hp : (regionPlain ops && (ops.toList.map (·.dst) == ds) && (ds.length == es.length)) = true) (hF : ∀ s, putD ds (vsOf s 0 es) a0 = F s)
    (h0 : I s0 (fun _ => false) w.drew) (hop : AllOps (ObOp Qp P ops F es I) 0 ops.toList) (hend : ∀ s w, I s (fun j => decide (j < ops.size)) w → Q .normal (F s) w) :
    (Code.region id ops true).wp P Q a0 w := by
  simp only [Bool.and_eq_true, beq_iff_eq] at hp
  obtain ⟨⟨h1, h2⟩, h3⟩ := hp
  have hc := plain_of h1
  have hl : ds.length = ops.size := by rw [← h2]; simp
  have hfit : ∀ s, Fits ops a0 (valOf es s) (fun j => decide (j < ops.size)) (F s) := by
    intro s
    rw [← hF s, putD_eq (valOf es s) ds (vsOf s 0 es) 0 a0 (by rw [vsOf_length]; exact h3) (fun k hk => by simp [valOf])]
    have := Fits.all (a0 := a0) (v := valOf es s) hc.one ds 0 a0 (fun k hk => by
      have hk' : k < ops.size := by omega
      refine ⟨ops[k], by simp [hk'], ?_⟩
      rw [← h2]
      simp [hk']) (by
        rw [show (fun j => decide (j < 0)) = (fun _ => false) from funext fun j => by simp]
        exact Fits.start _ _ _)
    rw [Nat.zero_add, hl] at this
    exact this
  refine wp_region_any hm (wpAny_inv hQ hc hfit hop hend ops.size _ a0 _ s0 (by simp) ?_ ?_ ?_ ?_)
  · refine Nat.le_trans (List.countP_le_length) (by simp)
  · rw [show (fun j => (Array.replicate ops.size false).getD j false) = (fun _ => false) from funext fun j => by
      simp [Array.getD_eq_getD_getElem?, Array.getElem?_replicate]; split <;> rfl]
    exact fun _ _ _ h => by cases h
  · rw [show (fun j => (Array.replicate ops.size false).getD j false) = (fun _ => false) from funext fun j => by
      simp [Array.getD_eq_getD_getElem?, Array.getElem?_replicate]; split <;> rfl]
    exact Fits.start _ _ _
  · rw [show (fun j => (Array.replicate ops.size false).getD j false) = (fun _ => false) from funext fun j => by
      simp [Array.getD_eq_getD_getElem?, Array.getElem?_replicate]; split <;> rfl]
    exact h0
end
/-! ### A region whose order is the text's -/
def regionSeq (ops : Array Oper) : Bool :=
  Region.noSelect ops && (List.range ops.size).all fun i => match ops[i]? with
    | none => true
    | some o => o.after.all (fun e => !Region.binds .any e || decide (e.on < i)) &&
      (List.range ops.size).all fun j => match dstOf ops j with
        | none => true
        | some t => (j == i || o.dst != some t) && (!(o.looksAt ops).contains t || decide (j < i))
structure PlainS (ops : Array Oper) : Prop where
  sel : ∀ (j : Nat) (o : Oper) (cs : Array SelectCase) (b : Bool), ops[j]? = some o → o.op ≠ .select cs b
  lt : ∀ (i : Nat) (o : Oper), ops[i]? = some o → ∀ e ∈ o.after, Region.binds .any e = true → e.on < i
  one : ∀ (i : Nat) (o : Oper), ops[i]? = some o → ∀ (j : Nat) (t : Tmp), dstOf ops j = some t → j ≠ i → o.dst ≠ some t
  look : ∀ (i : Nat) (o : Oper), ops[i]? = some o → ∀ (j : Nat) (t : Tmp), dstOf ops j = some t → t ∈ o.looksAt ops → j < i
theorem plainS_of {ops : Array Oper} (h : regionSeq ops = true) : PlainS ops := by
  unfold regionSeq at h
  rw [Bool.and_eq_true, List.all_eq_true] at h
  obtain ⟨h1, h2⟩ := h
  have key : ∀ i o, ops[i]? = some o → (∀ e ∈ o.after, (!Region.binds .any e || decide (e.on < i)) = true) ∧ ∀ j t, dstOf ops j = some t →
      ((j == i || o.dst != some t) && (!(o.looksAt ops).contains t || decide (j < i))) = true := by
    intro i o ho
    have hi : i < ops.size := (Array.getElem?_eq_some_iff.1 ho).1
    have h3 := h2 i (List.mem_range.2 hi)
    simp only [ho] at h3
    rw [Bool.and_eq_true, Array.all_eq_true_iff_forall_mem, List.all_eq_true] at h3
    refine ⟨h3.1, fun j t hj => ?_⟩
    have h4 := h3.2 j (List.mem_range.2 (dst_lt hj))
    simp only [hj] at h4
    exact h4
  refine ⟨fun j o cs b ho => Region.noSelect_spec h1 j o cs b ho, fun i o ho e he hb => ?_, fun i o ho j t hj hne => ?_, fun i o ho j t hj ht => ?_⟩
  · have := (key i o ho).1 e he
    simpa [hb] using this
  · have := (key i o ho).2 j t hj
    rw [Bool.and_eq_true] at this
    have h5 := this.1
    simp only [Bool.or_eq_true, beq_iff_eq, hne, false_or, bne_iff_ne, ne_eq] at h5
    exact h5
  · have := (key i o ho).2 j t hj
    rw [Bool.and_eq_true] at this
    have h5 := this.2
    have h6 : (o.looksAt ops).contains t = true := by simpa using ht
    rw [h6] at h5
    simpa using h5
section
variable {P : Program} {ops : Array Oper} {Q : Exit → Act → World → Prop} {F : (Nat → Nat) → Act} {es : List (Option Value)} {I : (Nat → Nat) → (Nat → Bool) → World → Prop} {a0 : Act}
theorem wpOps_inv {Qp : List PanicEntry → World → Prop} (hQ : ∀ c a w, a.defers = a0.defers → Qp c w → Q (.panic c) a w) (hc : PlainS ops) (hF : ∀ s, Fits ops a0 (valOf es s) (fun j => decide (j < ops.size)) (F s)) (hop : AllOps (ObOp Qp P ops F es I) 0 ops.toList)
    (hend : ∀ s w, I s (fun j => decide (j < ops.size)) w → Q .normal (F s) w) :
    ∀ (n i : Nat) (a : Act) (w : World) (s : Nat → Nat), i + n = ops.size → Fits ops a0 (valOf es s) (fun j => decide (j < i)) a → I s (fun j => decide (j < i)) w →
      wpOps P ops Q (List.range' i n) a w := by
  intro n
  induction n with
  | zero =>
    intro i a w s hi f hI
    rw [show i = ops.size from by omega] at f hI
    rw [List.range'_zero, f.same (hF s)]
    exact hend s w hI
  | succ n ih =>
    intro i a w s hi f hI
    have hil : i < ops.size := by omega
    have ho : ops[i]? = some ops[i] := Array.getElem?_eq_getElem hil
    generalize ops[i] = o at ho
    have hall : ∀ e ∈ o.after, Region.binds .any e = true → (fun j => decide (j < i)) e.on = true := fun e he hb => by simpa using hc.lt i o ho e he hb
    have hcl : Closed ops (fun j => decide (j < i)) := fun k ok hk hD e he hb => by
      have h1 := hc.lt k ok hk e he hb
      simp only [decide_eq_true_eq] at hD ⊢
      omega
    have hob := AllOps.get hop i o (by simpa using ho)
    rw [Nat.zero_add] at hob
    have h1 := hob s (fun j => decide (j < i)) w (by simp) hcl hall hI (fun a' w' => ∃ s', a' = (F s).put o.dst (valOf es s' i) ∧ (∀ j, decide (j < i) = true → valOf es s' j = valOf es s j) ∧ I s' (fun j => j == i || decide (j < i)) w')
      (fun a' w' s' ha hv hI' => ⟨s', ha, hv, hI'⟩)
    have hset : (fun j => j == i || decide (j < i)) = (fun j => decide (j < i + 1)) := funext fun j => by
      rw [Bool.eq_iff_iff]; simp only [Bool.or_eq_true, beq_iff_eq, decide_eq_true_eq]; omega
    have next : ∀ s' w', (∀ j, decide (j < i) = true → valOf es s' j = valOf es s j) → I s' (fun j => j == i || decide (j < i)) w' →
        wpOps P ops Q (List.range' (i + 1) n) (a.put o.dst (valOf es s' i)) w' := by
      intro s' w' hv hI'
      have f' := (f.congr hv).put hc.one ho
      rw [hset] at f' hI'
      exact ih (i + 1) _ _ s' (by omega) f' hI'
    have hsz : (F s).tmps.size = a.tmps.size := (hF s).size.trans f.size.symm
    have hl : ∀ (j : Nat) (t : Tmp), dstOf ops j = some t → t ∈ o.looksAt ops → decide (j < i) = true := fun j t hj ht => by simpa using hc.look i o ho j t hj ht
    rw [List.range'_succ]
    unfold wpOps
    simp only [ho]
    rw [f.want (hF s) hl]
    split
    · rename_i hw
      rw [if_pos hw] at h1
      refine .inl (wp_move (fun c w => hQ c a w f.dfs) h1 (f.exec (hF s) (fun cs bb => hc.sel i o cs bb ho) hl) ?_ ?_)
      · rintro u w' ⟨s', hp, hv, hI'⟩
        rw [put_same hsz hp]
        exact next s' w' hv hI'
      · rintro d w' ⟨s', hp, _⟩
        have hdf := congrArg Act.defers hp
        cases hdst : o.dst <;> rw [hdst] at hdf <;> simp [Act.put] at hdf
    · rename_i hw
      rw [if_neg hw] at h1
      obtain ⟨s', hp, hv, hI'⟩ := h1
      rw [put_same hsz hp]
      exact next s' w hv hI'
theorem wp_region_seq {id : Nat} {w : World} (Qp : List PanicEntry → World → Prop) (hQ : ∀ c a w, a.defers = a0.defers → Qp c w → Q (.panic c) a w) (ds : List (Option Tmp)) (es : List (Option Value)) (I : (Nat → Nat) → (Nat → Bool) → World → Prop) (s0 : Nat → Nat)
    (hp : (regionSeq ops && (ops.toList.map (·.dst) == ds) && (ds.length == es.length)) = true) (hF : ∀ s, putD ds (vsOf s 0 es) a0 = F s)
    (h0 : I s0 (fun _ => false) w) (hop : AllOps (ObOp Qp P ops F es I) 0 ops.toList) (hend : ∀ s w, I s (fun j => decide (j < ops.size)) w → Q .normal (F s) w) :
    (Code.region id ops false).wp P Q a0 w := by
  simp only [Bool.and_eq_true, beq_iff_eq] at hp
  obtain ⟨⟨h1, h2⟩, h3⟩ := hp
  have hc := plainS_of h1
  have hl : ds.length = ops.size := by rw [← h2]; simp
  have hfit : ∀ s, Fits ops a0 (valOf es s) (fun j => decide (j < ops.size)) (F s) := by
    intro s
    rw [← hF s, putD_eq (valOf es s) ds (vsOf s 0 es) 0 a0 (by rw [vsOf_length]; exact h3) (fun k hk => by simp [valOf])]
    have := Fits.all (a0 := a0) (v := valOf es s) hc.one ds 0 a0 (fun k hk => by
      have hk' : k < ops.size := by omega
      refine ⟨ops[k], by simp [hk'], ?_⟩
      rw [← h2]
      simp [hk']) (by
        rw [show (fun j => decide (j < 0)) = (fun _ => false) from funext fun j => by simp]
        exact Fits.start _ _ _)
    rw [Nat.zero_add, hl] at this
    exact this
  have hz : (fun j => decide (j < 0)) = (fun _ => false) := funext fun j => by simp
  refine wp_region ?_
  rw [List.range_eq_range']
  exact wpOps_inv hQ hc hfit hop hend ops.size 0 a0 w s0 (by simp) (by rw [hz]; exact Fits.start _ _ _) (by rw [hz]; exact h0)
end
section
variable {P : Program} {ops : Array Oper} {F : (Nat → Nat) → Act} {es : List (Option Value)} {I : (Nat → Nat) → (Nat → Bool) → World → Prop}
theorem ObOp.pure {Qp : List PanicEntry → World → Prop} {i : Nat} {o : Oper} (hI : ∀ s D w, I s D w → I s (fun j => j == i || D j) w) (hw : ∀ s, Region.wanted o (yielded ops (F s).tmps) = true)
    (h : ∀ s D w, D i = false → Closed ops D → (∀ e ∈ o.after, Region.binds .any e = true → D e.on = true) → I s D w → (execOp (F s).eval o).run P w = .ok (.value (valOf es s i)) w) : ObOp Qp P ops F es I i o := by
  intro s D w hd hcl ha hi K hK
  rw [if_pos (hw s)]
  unfold Oper.wp
  rw [h s D w hd hcl ha hi]
  exact hK.out _ _ s rfl (fun _ _ => rfl) (hI s D w hi)
end
end Go.Proofs.YtcdoidnfdkodoaaGreatDoor
namespace Go.Proofs.YtcdoidnfdkodoaaGreatDoor
open Go.RowKit
set_option linter.unusedVariables false
set_option linter.unusedSimpArgs false
set_option linter.unusedSectionVars false
structure Nw where
  a : Nat
  st : Nat
  t : TypeId
  z : Array Value
  c : Array Value
structure GOk (G : Bool → World → Prop) (lo : Nat) : Prop where
  b : ∀ k w w', G k w → Below w.heap.size w w' → G k w'
  s : ∀ k w w' M, G k w → lo < M → But [M] w.heap.size w w' → G k w'
  l : ∀ k w, G k w → lo < w.heap.size
structure RI (G : Bool → World → Prop) (lo dd dead : Nat) (old : List (Nat × TypeId × Array Value)) (new : List Nw) (N : Nat → Nat) (D : Nat → Bool) (w : World) : Prop where
  g : G (D dd) w
  k : ∀ x ∈ old, Blk w x.1 x.2.1 x.2.2
  c : ∀ x ∈ new, D x.st = true → D x.a = true
  n : ∀ x ∈ new, D x.a = true → Blk w (N x.a) x.t (bif D x.st then x.c else x.z) ∧ lo < N x.a
  o : ∀ x ∈ new, D x.a = true → ∀ y ∈ old, N x.a ≠ y.1
  d : ∀ x ∈ new, ∀ y ∈ new, D x.a = true → D y.a = true → x.a ≠ y.a → N x.a ≠ N y.a
  e : D dead = false
def oneA : List Nw → Bool
  | [] => true
  | x :: r => r.all (fun y => y.a != x.a && y.st != x.st) && oneA r
theorem oneA_a : ∀ {l : List Nw}, oneA l = true → ∀ {x y : Nw}, x ∈ l → y ∈ l → x.a = y.a → x = y
  | [], _, x, y, hx, _, _ => by cases hx
  | z :: r, h, x, y, hx, hy, he => by
    simp only [oneA, Bool.and_eq_true, List.all_eq_true, bne_iff_ne, ne_eq] at h
    rcases List.mem_cons.1 hx with hx1 | hx1 <;> rcases List.mem_cons.1 hy with hy1 | hy1
    · rw [hx1, hy1]
    · subst hx1; exact absurd he.symm (h.1 y hy1).1
    · subst hy1; exact absurd he (h.1 x hx1).1
    · exact oneA_a h.2 hx1 hy1 he
theorem oneA_s : ∀ {l : List Nw}, oneA l = true → ∀ {x y : Nw}, x ∈ l → y ∈ l → x.st = y.st → x = y
  | [], _, x, y, hx, _, _ => by cases hx
  | z :: r, h, x, y, hx, hy, he => by
    simp only [oneA, Bool.and_eq_true, List.all_eq_true, bne_iff_ne, ne_eq] at h
    rcases List.mem_cons.1 hx with hx1 | hx1 <;> rcases List.mem_cons.1 hy with hy1 | hy1
    · rw [hx1, hy1]
    · subst hx1; exact absurd he.symm (h.1 y hy1).2
    · subst hy1; exact absurd he (h.1 x hx1).2
    · exact oneA_s h.2 hx1 hy1 he
def off (dd dead : Nat) (new : List Nw) (i : Nat) : Bool := new.all (fun x => x.a != i && x.st != i) && dd != i && dead != i
section
variable {G : Bool → World → Prop} {lo dd dead : Nat} {old : List (Nat × TypeId × Array Value)} {new : List Nw} {N : Nat → Nat} {D : Nat → Bool} {w w' : World}
theorem RI.start (g : G false w) (k : ∀ x ∈ old, Blk w x.1 x.2.1 x.2.2) (N : Nat → Nat) : RI G lo dd dead old new N (fun _ => false) w :=
  ⟨g, k, fun _ _ h => (Bool.noConfusion h), fun _ _ h => (Bool.noConfusion h), fun _ _ h => (Bool.noConfusion h), fun _ _ _ _ h => (Bool.noConfusion h), rfl⟩
theorem off_spec {i : Nat} (h : off dd dead new i = true) : (∀ x ∈ new, (x.a == i) = false ∧ (x.st == i) = false) ∧ (dd == i) = false ∧ (dead == i) = false := by
  simp only [off, Bool.and_eq_true, List.all_eq_true, bne_iff_ne, ne_eq] at h
  exact ⟨fun x hx => ⟨by simpa using (h.1.1 x hx).1, by simpa using (h.1.1 x hx).2⟩, by simpa using h.1.2, by simpa using h.2⟩
theorem RI.call (ok : GOk G lo) {i : Nat} (hi : off dd dead new i = true) (h : RI G lo dd dead old new N D w) (bx : Below w.heap.size w w') :
    RI G lo dd dead old new N (fun j => j == i || D j) w' := by
  obtain ⟨h1, h2, h3⟩ := off_spec hi
  refine ⟨?_, fun x hx => (h.k x hx).below bx (h.k x hx).lt, fun x hx hs => ?_, fun x hx ha => ?_, fun x hx ha => ?_, fun x hx y hy ha hb => ?_, ?_⟩
  · simp only [h2, Bool.false_or]; exact ok.b _ _ _ h.g bx
  · simp only [h1 x hx, Bool.false_or] at hs ⊢; exact h.c x hx hs
  · simp only [h1 x hx, Bool.false_or] at ha ⊢
    have z := h.n x hx ha
    exact ⟨z.1.below bx z.1.lt, z.2⟩
  · simp only [h1 x hx, Bool.false_or] at ha; exact h.o x hx ha
  · simp only [h1 x hx, h1 y hy, Bool.false_or] at ha hb; exact h.d x hx y hy ha hb
  · simp only [h3, Bool.false_or]; exact h.e
theorem RI.pure {i : Nat} (hi : off dd dead new i = true) (h : RI G lo dd dead old new N D w) : RI G lo dd dead old new N (fun j => j == i || D j) w := by
  obtain ⟨h1, h2, h3⟩ := off_spec hi
  refine ⟨?_, h.k, fun x hx hs => ?_, fun x hx ha => ?_, fun x hx ha => ?_, fun x hx y hy ha hb => ?_, ?_⟩
  · simp only [h2, Bool.false_or]; exact h.g
  · simp only [h1 x hx, Bool.false_or] at hs ⊢; exact h.c x hx hs
  · simp only [h1 x hx, Bool.false_or] at ha ⊢; exact h.n x hx ha
  · simp only [h1 x hx, Bool.false_or] at ha; exact h.o x hx ha
  · simp only [h1 x hx, h1 y hy, Bool.false_or] at ha hb; exact h.d x hx y hy ha hb
  · simp only [h3, Bool.false_or]; exact h.e
theorem RI.guest {Sx : List Nat} (hS : ∀ k ∈ Sx, k ≤ lo) (hi : (new.all (fun x => x.a != dd && x.st != dd) && dead != dd) = true) (h : RI G lo dd dead old new N D w) (hg : G true w') (ol : ∀ y ∈ old, y.1 ∉ Sx) (bx : But Sx w.heap.size w w') :
    RI G lo dd dead old new N (fun j => j == dd || D j) w' := by
  have h1 : ∀ x ∈ new, (x.a == dd) = false ∧ (x.st == dd) = false := by
    simp only [Bool.and_eq_true, List.all_eq_true, bne_iff_ne, ne_eq] at hi
    exact fun x hx => ⟨by simpa using (hi.1 x hx).1, by simpa using (hi.1 x hx).2⟩
  have h3 : (dead == dd) = false := by
    simp only [Bool.and_eq_true, bne_iff_ne, ne_eq] at hi
    simpa using hi.2
  refine ⟨?_, fun x hx => (h.k x hx).but bx (h.k x hx).lt (ol x hx), fun x hx hs => ?_, fun x hx ha => ?_, fun x hx ha => ?_, fun x hx y hy ha hb => ?_, ?_⟩
  · simpa using hg
  · simp only [h1 x hx, Bool.false_or] at hs ⊢; exact h.c x hx hs
  · simp only [h1 x hx, Bool.false_or] at ha ⊢
    have z := h.n x hx ha
    exact ⟨z.1.but bx z.1.lt (fun hm => by have := hS _ hm; have := z.2; omega), z.2⟩
  · simp only [h1 x hx, Bool.false_or] at ha; exact h.o x hx ha
  · simp only [h1 x hx, h1 y hy, Bool.false_or] at ha hb; exact h.d x hx y hy ha hb
  · simp only [h3, Bool.false_or]; exact h.e
theorem RI.alloc (ok : GOk G lo) {x : Nw} (hx : x ∈ new) (hi : (oneA new && new.all (fun y => y.st != x.a) && dd != x.a && dead != x.a) = true) (hD : D x.a = false) (h : RI G lo dd dead old new N D w) :
    RI G lo dd dead old new (fun j => bif j == x.a then w.heap.size else N j) (fun j => j == x.a || D j) (w.alloc (.cells x.z x.t)) := by
  simp only [Bool.and_eq_true, List.all_eq_true, bne_iff_ne, ne_eq] at hi
  obtain ⟨⟨⟨hu, hs⟩, hd⟩, he0⟩ := hi
  have bx := (Below.refl w.heap.size w).alloc (Nat.le_refl _) (.cells x.z x.t)
  have e1 : (dd == x.a) = false := by simpa using hd
  have e2 : ∀ y ∈ new, (y.st == x.a) = false := fun y hy => by simpa using hs y hy
  have part : ∀ y ∈ new, (y.a == x.a || D y.a) = true → y = x ∨ ((y.a == x.a) = false ∧ D y.a = true) := fun y hy ha => by
    by_cases he : y.a = x.a
    · exact .inl (oneA_a hu hy hx he)
    · have : (y.a == x.a) = false := by simpa using he
      exact .inr ⟨this, by simpa [this] using ha⟩
  refine ⟨?_, fun y hy => (h.k y hy).alloc _, fun y hy hst => ?_, fun y hy ha => ?_, fun y hy ha z hz => ?_, fun y hy z hz ha hb hne => ?_, by rw [show (dead == x.a) = false from by simpa using he0]; exact h.e⟩
  · simp only [e1, Bool.false_or]; exact ok.b _ _ _ h.g bx
  · simp only [e2 y hy, Bool.false_or] at hst
    simp [h.c y hy hst]
  · rcases part y hy ha with rfl | ⟨q, hDa⟩
    · have hst : D y.st = false := by
        cases hh : D y.st with
        | false => rfl
        | true => rw [h.c y hy hh] at hD; cases hD
      simp only [beq_self_eq_true, cond_true, e2 y hy, hst, Bool.or_false, cond_false]
      exact ⟨Blk.new w y.t y.z, ok.l _ _ h.g⟩
    · simp only [q, cond_false, e2 y hy, Bool.false_or]
      have z := h.n y hy hDa
      exact ⟨z.1.alloc _, z.2⟩
  · rcases part y hy ha with rfl | ⟨q, hDa⟩
    · simp only [beq_self_eq_true, cond_true]
      exact Nat.ne_of_gt (h.k z hz).lt
    · simp only [q, cond_false]
      exact h.o y hy hDa z hz
  · rcases part y hy ha with rfl | ⟨q, hDa⟩ <;> rcases part z hz hb with rfl | ⟨r, hDb⟩
    · exact absurd rfl hne
    · simp only [beq_self_eq_true, cond_true, r, cond_false]
      exact Nat.ne_of_gt (h.n z hz hDb).1.lt
    · simp only [beq_self_eq_true, cond_true, q, cond_false]
      exact Nat.ne_of_lt (h.n y hy hDa).1.lt
    · simp only [q, r, cond_false]
      exact h.d y hy z hz hDa hDb hne
theorem RI.store (ok : GOk G lo) {x : Nw} (hx : x ∈ new) (hi : (oneA new && new.all (fun y => y.a != x.st) && dd != x.st && dead != x.st) = true) (hD : D x.a = true) (h : RI G lo dd dead old new N D w) :
    RI G lo dd dead old new N (fun j => j == x.st || D j) (w.setRow (N x.a) x.c) := by
  simp only [Bool.and_eq_true, List.all_eq_true, bne_iff_ne, ne_eq] at hi
  obtain ⟨⟨⟨hu, hs⟩, hd⟩, he0⟩ := hi
  have e1 : (dd == x.st) = false := by simpa using hd
  have e2 : ∀ y ∈ new, (y.a == x.st) = false := fun y hy => by simpa using hs y hy
  have zx := h.n x hx hD
  have bx := (But.refl [N x.a] w.heap.size w).setRow (g := N x.a) (by simp) x.c
  refine ⟨?_, fun y hy => (h.k y hy).rowOther _ (Ne.symm (h.o x hx hD y hy)), fun y hy hst => ?_, fun y hy ha => ?_, fun y hy ha => ?_, fun y hy z hz ha hb hne => ?_, by rw [show (dead == x.st) = false from by simpa using he0]; exact h.e⟩
  · simp only [e1, Bool.false_or]; exact ok.s _ _ _ _ h.g zx.2 bx
  · simp only [e2 y hy, Bool.false_or]
    by_cases he : y.st = x.st
    · rw [oneA_s hu hy hx he]; exact hD
    · exact h.c y hy (by simpa [he] using hst)
  · simp only [e2 y hy, Bool.false_or] at ha
    by_cases he : y.st = x.st
    · obtain rfl := oneA_s hu hy hx he
      simp only [beq_self_eq_true, Bool.true_or, cond_true]
      exact ⟨zx.1.row _, zx.2⟩
    · have z := h.n y hy ha
      have q : (y.st == x.st) = false := by simpa using he
      simp only [q, Bool.false_or]
      refine ⟨z.1.rowOther _ (h.d y hy x hx ha hD fun e => he (by rw [oneA_a hu hy hx e])), z.2⟩
  · simp only [e2 y hy, Bool.false_or] at ha; exact h.o y hy ha
  · simp only [e2 y hy, e2 z hz, Bool.false_or] at ha hb; exact h.d y hy z hz ha hb hne
theorem RI.box {n : Nat} (h : RI G lo dd dead old new N (fun j => decide (j < n)) w) {x : Nw} (hx : x ∈ new) (hn : (decide (x.a < n) && decide (x.st < n)) = true) :
    Blk w (N x.a) x.t x.c ∧ lo < N x.a ∧ ∀ y ∈ old, N x.a ≠ y.1 := by
  simp only [Bool.and_eq_true] at hn
  have z := h.n x hx hn.1
  simp only [hn.2, cond_true] at z
  exact ⟨z.1, z.2, h.o x hx hn.1⟩
end
theorem RI.gf {ops : Array Oper} {G : Bool → World → Prop} {lo dd dead : Nat} {old : List (Nat × TypeId × Array Value)} {new : List Nw} {N : Nat → Nat} {D : Nat → Bool} {w : World} {i : Nat}
    (h : RI G lo dd dead old new N D w) (hd : D i = false) (hcl : Closed ops D) (hb : beforeB ops dd i = true) : G false w := by
  have := h.g
  rwa [before_false hcl hd hb] at this
section
variable {Qp : List PanicEntry → World → Prop} {P : Program} {ops : Array Oper} {F : (Nat → Nat) → Act} {es : List (Option Value)}
variable {G : Bool → World → Prop} {lo dd dead : Nat} {old : List (Nat × TypeId × Array Value)} {new : List Nw}
theorem ObOp.val {i : Nat} {o : Oper} (V : (Nat → Nat) → Value) (hi : off dd dead new i = true) (hV : ∀ s, valOf es s i = V s) (hw : ∀ s, Region.wanted o (yielded ops (F s).tmps) = true)
    (h : ∀ s D w, D i = false → Closed ops D → RI G lo dd dead old new s D w → (execOp (F s).eval o).run P w = .ok (.value (V s)) w) :
    ObOp Qp P ops F es (RI G lo dd dead old new) i o :=
  ObOp.pure (fun s D w h => h.pure hi) hw fun s D w hd hcl ha hI => by rw [hV s]; exact h s D w hd hcl hI
theorem ObOp.alloc (ok : GOk G lo) {o : Oper} {x : Nw} (hx : x ∈ new) (hi : (oneA new && new.all (fun y => y.st != x.a) && dd != x.a && dead != x.a) = true)
    (hV : ∀ s, valOf es s x.a = .pointer (some ⟨s x.a, 0, none⟩)) (hA : es[x.a]? = some none) (hw : ∀ s, Region.wanted o (yielded ops (F s).tmps) = true)
    (h : ∀ s w, (execOp (F s).eval o).run P w = .ok (.value (.pointer (some ⟨w.heap.size, 0, none⟩))) (w.alloc (.cells x.z x.t))) :
    ObOp Qp P ops F es (RI G lo dd dead old new) x.a o := by
  intro s D w hd hcl ha hI K hK
  rw [if_pos (hw s)]
  unfold Oper.wp
  rw [h s w]
  refine hK.out _ _ _ ?_ ?_ (hI.alloc ok hx hi hd)
  · rw [hV, beq_self_eq_true, cond_true]
  · intro j hj
    refine valOf_agree ?_
    have h1 : j ≠ x.a := fun e => by rw [e, hd] at hj; cases hj
    show (bif j == x.a then w.heap.size else s j) = s j
    rw [show (j == x.a) = false from by simpa using h1]
    rfl
theorem ObOp.calls (ok : GOk G lo) {i : Nat} {o : Oper} (V : (Nat → Nat) → Value) (f : FuncId) (args : (Nat → Nat) → Array Value) (hi : off dd dead new i = true) (hV : ∀ s, valOf es s i = V s)
    (hw : ∀ s, Region.wanted o (yielded ops (F s).tmps) = true)
    (he : ∀ s D w, (∀ e ∈ o.after, Region.binds .any e = true → D e.on = true) → RI G lo dd dead old new s D w → (execOp (F s).eval o).run P w = .ok (.enter f (args s)) w)
    (h : ∀ s D w, D i = false → Closed ops D → RI G lo dd dead old new s D w → Calls P f (args s) w fun e w' => e = .returned (V s) ∧ Below w.heap.size w w') :
    ObOp Qp P ops F es (RI G lo dd dead old new) i o := by
  intro s D w hd hcl ha hI K hK
  rw [if_pos (hw s)]
  unfold Oper.wp
  rw [he s D w ha hI]
  refine (h s D w hd hcl hI).mono ?_
  rintro e w' ⟨rfl, bx⟩
  exact hK.out _ _ s (by rw [hV]) (fun _ _ => rfl) (hI.call ok hi bx)
theorem ObOp.guest {o : Oper} {Sx : List Nat} (hS : ∀ k ∈ Sx, k ≤ lo) (V : (Nat → Nat) → Value) (f : FuncId) (args : (Nat → Nat) → Array Value) (hi : (new.all (fun x => x.a != dd && x.st != dd) && dead != dd) = true) (ol : ∀ y ∈ old, y.1 ∉ Sx) (hV : ∀ s, valOf es s dd = V s)
    (hw : ∀ s, Region.wanted o (yielded ops (F s).tmps) = true)
    (he : ∀ s D w, (∀ e ∈ o.after, Region.binds .any e = true → D e.on = true) → RI G lo dd dead old new s D w → (execOp (F s).eval o).run P w = .ok (.enter f (args s)) w)
    (h : ∀ s w, G false w → Calls P f (args s) w fun e w' => e = .returned (V s) ∧ G true w' ∧ But Sx w.heap.size w w') :
    ObOp Qp P ops F es (RI G lo dd dead old new) dd o := by
  intro s D w hd hcl ha hI K hK
  rw [if_pos (hw s)]
  unfold Oper.wp
  rw [he s D w ha hI]
  have hg := hI.g
  rw [hd] at hg
  refine (h s w hg).mono ?_
  rintro e w' ⟨rfl, hg', bx⟩
  exact hK.out _ _ s (by rw [hV]) (fun _ _ => rfl) (hI.guest hS hi hg' ol bx)
theorem ObOp.panics {o : Oper} (f : FuncId) (args : (Nat → Nat) → Array Value) 
    (hw : ∀ s, Region.wanted o (yielded ops (F s).tmps) = true)
    (he : ∀ s D w, (∀ e ∈ o.after, Region.binds .any e = true → D e.on = true) → RI G lo dd dead old new s D w → (execOp (F s).eval o).run P w = .ok (.enter f (args s)) w)
    (h : ∀ s k w, G k w → Calls P f (args s) w fun e w' => ∃ c, e = .panicked c ∧ Qp c w') :
    ObOp Qp P ops F es (RI G lo dd dead old new) dead o := by
  intro s D w hd hcl ha hI K hK
  rw [if_pos (hw s)]
  unfold Oper.wp
  rw [he s D w ha hI]
  refine (h s _ w hI.g).mono ?_
  rintro e w' ⟨c, rfl, hq⟩
  exact hq
theorem ObOp.behind {i : Nat} {o : Oper} (haf : o.after.any (fun e => Region.binds .any e && (e.on == dead || waits ops dead 30 e.on)) = true) : ObOp Qp P ops F es (RI G lo dd dead old new) i o := by
  intro s D w hd hcl ha hI K hK
  obtain ⟨e, he, hb⟩ := Array.any_eq_true'.1 haf
  simp only [Bool.and_eq_true, Bool.or_eq_true, beq_iff_eq] at hb
  have h1 := ha e he hb.1
  have h2 : D dead = true := by
    rcases hb.2 with h3 | h3
    · rw [← h3]; exact h1
    · exact waits_spec hcl 30 e.on h3 h1
  rw [hI.e] at h2
  cases h2
theorem ObOp.stores (ok : GOk G lo) {o : Oper} {x : Nw} (hx : x ∈ new) (hi : (oneA new && new.all (fun y => y.a != x.st) && dd != x.st && dead != x.st) = true)
    (hw : ∀ s, Region.wanted o (yielded ops (F s).tmps) = true) (hd : o.dst = none) (haf : o.after.any (fun e => Region.binds .any e && e.on == x.a) = true)
    (h : ∀ (s : Nat → Nat) (D : Nat → Bool) (w : World) (K : Act → World → Prop), D x.a = true → Blk w (s x.a) x.t x.z → K (F s) (w.setRow (s x.a) x.c) → Oper.wp P o (F s) w K (OnP Qp)) :
    ObOp Qp P ops F es (RI G lo dd dead old new) x.st o := by
  intro s D w hdd hcl ha hI K hK
  rw [if_pos (hw s)]
  obtain ⟨e, he, hb⟩ := Array.any_eq_true'.1 haf
  simp only [Bool.and_eq_true, beq_iff_eq] at hb
  have hDa : D x.a = true := by rw [← hb.2]; exact ha e he hb.1
  have hb1 := (hI.n x hx hDa).1
  rw [hdd, cond_false] at hb1
  refine h s D w K hDa hb1 (hK.out _ _ s ?_ (fun _ _ => rfl) (hI.store ok hx hi hDa))
  rw [hd]
  rfl
end
end Go.Proofs.YtcdoidnfdkodoaaGreatDoor
namespace Go.Proofs.YtcdoidnfdkodoaaGreatDoor
open Go.RowKit
section
variable {Qp : List PanicEntry → World → Prop} {P : Program} {ops : Array Oper} {F : (Nat → Nat) → Act} {es : List (Option Value)}
variable {G : Bool → World → Prop} {lo dd dead : Nat} {old : List (Nat × TypeId × Array Value)} {new : List Nw}
theorem ObOp.skip {i : Nat} {o : Oper} (hi : off dd dead new i = true) (hV : ∀ s, valOf es s i = undef) (hw : ∀ s, Region.wanted o (yielded ops (F s).tmps) = false) : ObOp Qp P ops F es (RI G lo dd dead old new) i o := by
  intro s D w hd hcl ha hI K hK
  rw [hw s, if_neg (by simp)]
  exact hK.out _ _ s (by rw [hV]) (fun _ _ => rfl) (hI.pure hi)
end
end Go.Proofs.YtcdoidnfdkodoaaGreatDoor
