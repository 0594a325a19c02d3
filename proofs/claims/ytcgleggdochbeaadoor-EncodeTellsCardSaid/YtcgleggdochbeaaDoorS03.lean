import Derived.Test.YtcgleggdochbeaaDoorS02
namespace Go.Proofs.YtcgleggdochbeaaDoor
open Go.RowKit
set_option linter.unusedVariables false
set_option linter.unusedSimpArgs false
set_option linter.unusedSectionVars false
theorem first_filter (zs : List Int) (c : Int) (p : Nat) : ∀ L : List Rw, firstM zs c p L = firstM zs c p (L.filter (fitB c))
 | [] => rfl
 | r :: rs => by
  rw [List.filter_cons]
  cases h : fitB c r
  ·rw [firstM, h]; exact first_filter zs c p rs
  ·rw [if_pos rfl, firstM, firstM, h, first_filter zs c p rs]
def rowsOf (c : Int) : List Rw := (singleL ++ doubleL).filter (fitB c)
theorem dec_rows {zs : List Int} {c : Int} {p : Nat} (h : openM zs = some (c, p)) :
  decM zs = match firstM zs c p (rowsOf c) with | .error x => .error x | .ok none => .error 12 | .ok (some i) => .ok i := by
 unfold decM
 rw [h]
 dsimp only
 rw [first_filter]
 rfl
def isOr (i : In) : Except Int In := if isB i then .ok i else .error 12
theorem fit_of {c : Int} {r : Rw} {L : List Rw} (h : rowsOf c = r :: L) : fitB c r = true := by
 have : r ∈ rowsOf c := by rw [h]; exact List.mem_cons_self
 exact (List.mem_filter.1 this).2
theorem dec_one {zs : List Int} {c : Int} {p : Nat} {r : Rw} (h : openM zs = some (c, p)) (hr : rowsOf c = [r]) :
  decM zs = match byM zs c p r with | .error x => .error x | .ok i => isOr i := by
 rw [dec_rows h, hr, firstM, if_pos (fit_of hr)]
 cases byM zs c p r with
 | error x => rfl
 | ok i =>
  dsimp only [isOr]
  cases isB i <;> rfl
theorem dec_two {zs : List Int} {c : Int} {p : Nat} {r s : Rw} (h : openM zs = some (c, p)) (hr : rowsOf c = [r, s]) :
  decM zs = match byM zs c p r with | .error x => .error x | .ok i => if isB i then .ok i else (match byM zs c p s with | .error x => .error x | .ok i => isOr i) := by
 have h2 : fitB c s = true := by
  have : s ∈ rowsOf c := by rw [hr]; simp
  exact (List.mem_filter.1 this).2
 rw [dec_rows h, hr, firstM, if_pos (fit_of hr)]
 cases byM zs c p r with
 | error x => rfl
 | ok i =>
  dsimp only
  cases isB i
  ·simp only [Bool.false_eq_true, if_false]
   rw [firstM, if_pos h2]
   cases byM zs c p s with
   | error x => rfl
   | ok j => dsimp only [isOr]; cases isB j <;> rfl
  ·rfl
theorem open_one {z : Int} {t : List Int} (h : ¬ (z = 15 ∨ z = 217 ∨ z = 243)) : openM (z :: t) = some (z, 1) := by
 unfold openM
 rw [if_pos (by simp), if_neg (by simpa using h)]
 rfl
theorem open_two {z y : Int} {t : List Int} (h : z = 15 ∨ z = 217 ∨ z = 243) : openM (z :: y :: t) = some (z * 256 + y, 2) := by
 unfold openM
 rw [if_pos (by simp), if_pos (by simpa using h), if_pos (by simp)]
 rfl
def RM (o : On) : Prop := (∃ r, 0 ≤ r ∧ r < 8 ∧ o = onReg r) ∨ (∃ m b x s, o = onMem m b x s ∧ memA b x s = 8)
theorem mem_ok {b x s : Int} (hb : -1 ≤ b ∧ b < 8) (hx : (x = -1 ∧ s = 1) ∨ (0 ≤ x ∧ x < 8 ∧ x ≠ 4 ∧ (s = 1 ∨ s = 2 ∨ s = 4 ∨ s = 8))) : memA b x s = 8 := by
 have h1 : (b == -1 || isRegB b) = true := by unfold isRegB; simp; omega
 have h2 : isIndexB x s = true := by
  unfold isIndexB isRegB isScaleB
  rcases hx with ⟨rfl, rfl⟩ | ⟨h1, h2, h3, h4⟩
  ·rfl
  ·rw [show (x == -1) = false by simp; omega]
   simp; omega
 unfold memA
 rw [h1, h2]; rfl
theorem distM_RM {zs : List Int} {p : Nat} {how b x s : Int} {o : On} {q : Nat} (hb : 0 ≤ b ∧ b < 8) (hx : (x = -1 ∧ s = 1) ∨ (0 ≤ x ∧ x < 8 ∧ x ≠ 4 ∧ (s = 1 ∨ s = 2 ∨ s = 4 ∨ s = 8))) (h : distM zs p how b x s = some (o, q)) : RM o ∧ o.k = 3 ∧ q ≤ p + 4 := by
 unfold distM at h
 (repeat' split at h) <;> first | (cases h; done) | (obtain ⟨rfl, rfl⟩ := Prod.mk.inj (Option.some.inj h); exact ⟨.inr ⟨_, _, _, _, rfl, mem_ok (by omega) hx⟩, rfl, by omega⟩)
theorem scale_ok (k : Int) (h : 0 ≤ k ∧ k < 4) : (2 : Int) ^ k.toNat = 1 ∨ (2 : Int) ^ k.toNat = 2 ∨ (2 : Int) ^ k.toNat = 4 ∨ (2 : Int) ^ k.toNat = 8 := by
 rcases (by omega : k = 0 ∨ k = 1 ∨ k = 2 ∨ k = 3) with rfl | rfl | rfl | rfl <;> decide
theorem placeM_RM {zs : List Int} {p : Nat} {m : Int} {o : On} {q : Nat} (h : placeM zs p m = some (o, q)) : RM o ∧ (o.k = 3 ↔ ¬ m / 64 % 4 = 3) ∧ q ≤ p + 5 := by
 unfold placeM at h
 split at h
 ·rename_i h3
  obtain ⟨rfl, rfl⟩ := Prod.mk.inj (Option.some.inj h)
  exact ⟨.inl ⟨m % 8, by omega, by omega, rfl⟩, by simp [onReg, h3], by omega⟩
 ·rename_i h3
  split at h
  ·split at h
   ·split at h
    ·have := distM_RM (by omega) (.inl ⟨rfl, rfl⟩) h
     exact ⟨this.1, by simp [this.2.1, h3], by omega⟩
    ·have := distM_RM (by omega) (.inr ⟨by omega, by omega, by assumption, scale_ok _ (by omega)⟩) h
     exact ⟨this.1, by simp [this.2.1, h3], by omega⟩
   ·cases h
  ·have := distM_RM (by omega) (.inl ⟨rfl, rfl⟩) h
   exact ⟨this.1, by simp [this.2.1, h3], by omega⟩
theorem cA_reg {r : Int} (h : 0 ≤ r ∧ r < 8) : cA (onReg r) = if r = 1 then 6 else 2 := by
 unfold cA onReg regA isRegB
 by_cases h1 : r = 1
 ·subst h1; rfl
 ·rw [if_neg h1, show (r == 1) = false by simpa using h1]
  simp [h.1, h.2]
theorem cA_mem8 {m b x s : Int} (h : memA b x s = 8) : cA (onMem m b x s) = 8 := by
 unfold cA onMem
 simpa using h
theorem cA_imm (n : Int) : cA (onImm n) = if n = 128 then 112 else if n < 256 then 48 else 16 := by
 unfold cA onImm numA
 by_cases h1 : n = 128
 ·subst h1; rfl
 ·rw [if_neg h1, show (n == 128) = false by simpa using h1]
  by_cases h2 : n < 256
  ·simp [h2]
  ·simp [h2]
theorem cA_RM {o : On} (h : RM o) : (cA o = 2 ∨ cA o = 6 ∨ cA o = 8) ∧ (cA o = 8 ↔ o.k = 3) := by
 rcases h with ⟨r, h1, h2, rfl⟩ | ⟨m, b, x, s, rfl, h⟩
 ·rw [cA_reg ⟨h1, h2⟩]
  split <;> simp [onReg]
 ·rw [cA_mem8 h]
  simp [onMem]
theorem cA_imm3 (n : Int) : cA (onImm n) = 16 ∨ cA (onImm n) = 48 ∨ cA (onImm n) = 112 := by
 rw [cA_imm]; split <;> (try split) <;> simp
def noB (op : Int) (SA SB : List Int) : Bool := SA.all fun a => SB.all fun b => !takesB (rowN op) a b
theorem isB_no {op c : Int} {A B : On} {rep : Bool} {len : Int} {SA SB : List Int} (h : noB op SA SB = true) (hA : cA A ∈ SA) (hB : cA B ∈ SB) : isB ⟨op, c, A, B, rep, len⟩ = false := by
 have := List.all_eq_true.1 (List.all_eq_true.1 h _ hA) _ hB
 unfold isB
 dsimp only
 rw [show takesB (rowN op) (cA A) (cA B) = false by simpa using this]
 simp
theorem mem_reg {r : Int} (h : 0 ≤ r ∧ r < 8) : cA (onReg r) ∈ [2, 6] := by rw [cA_reg h]; split <;> decide
theorem mem_imm (n : Int) : cA (onImm n) ∈ [16, 48, 112] := by rcases cA_imm3 n with h | h | h <;> rw [h] <;> decide
theorem mem_z : cA onZ ∈ [1] := by decide
theorem mem_mem {o : On} (h : RM o) (h3 : o.k = 3) : cA o ∈ [8] := by rw [(cA_RM h).2.2 h3]; decide
theorem isOr_ok {i : In} (h : isB i = true) : isOr i = .ok i := if_pos h
theorem isB_inZ : isB inZ = false := by kernel_rfl
section
variable {zs : List Int} {c m : Int} {p : Nat} {r : Rw}
theorem rest_ok {op : Int} {A B : On} {q q' : Nat} (ho : opM c m r = op) (h0 : ¬ op = 0) (h1 : ¬ op = -1) (hA : operM zs c m p r.a = some (A, q)) (hB : operM zs c m q r.b = some (B, q')) :
  restM zs c m p r = .ok ⟨op, if r.g = 65520 then c % 16 else 0, A, B, c / 256 == 243, q'⟩ := by
 unfold restM
 rw [ho, if_neg h0, if_neg h1, hA]
 dsimp only
 rw [hB]
theorem rest_zero (ho : opM c m r = 0) : restM zs c m p r = .ok inZ := by unfold restM; rw [if_pos ho]
theorem rest_bad (ho : opM c m r = -1) : restM zs c m p r = .error 90 := by unfold restM; rw [if_neg (by rw [ho]; decide), if_pos ho]
theorem rest_shortA {op : Int} (ho : opM c m r = op) (h0 : ¬ op = 0) (h1 : ¬ op = -1) (hA : operM zs c m p r.a = none) : restM zs c m p r = .error 10 := by
 unfold restM
 rw [ho, if_neg h0, if_neg h1, hA]
theorem rest_shortB {op : Int} {A : On} {q : Nat} (ho : opM c m r = op) (h0 : ¬ op = 0) (h1 : ¬ op = -1) (hA : operM zs c m p r.a = some (A, q)) (hB : operM zs c m q r.b = none) : restM zs c m p r = .error 10 := by
 unfold restM
 rw [ho, if_neg h0, if_neg h1, hA]
 dsimp only
 rw [hB]
end
section
variable (zs : List Int) (c m : Int) (p : Nat)
theorem oper5 : operM zs c m p 5 = some (onReg (m / 8 % 8), p) := by simp [operM]
theorem oper6 : operM zs c m p 6 = placeM zs p m := by simp [operM]
end
def wB (v : Int) : List Int := [v % 256, v / 256 % 256, v / 65536 % 256, v / 16777216]
theorem wB_bd (v : Int) (hv : 0 ≤ v ∧ v ≤ 4294967295) : ∀ z ∈ wB v, 0 ≤ z ∧ z ≤ 255 := by
 intro z hz
 simp only [wB, List.mem_cons, List.not_mem_nil, or_false] at hz
 omega
theorem le4_wB (xs ys : List Int) (v : Int) (hv : 0 ≤ v ∧ v ≤ 4294967295) : le4 (xs ++ wB v ++ ys) xs.length = v := by
 have g : ∀ k, k < 4 → (xs ++ wB v ++ ys).getD (xs.length + k) 0 = (wB v).getD k 0 := fun k hk => by
  have h4 : k < (wB v).length := by simpa [wB] using hk
  simp only [List.getD_eq_getElem?_getD]
  rw [List.append_assoc, List.getElem?_append_right (by omega), show xs.length + k - xs.length = k by omega, List.getElem?_append_left h4]
 unfold le4
 rw [show xs.length = xs.length + 0 from rfl, g 0 (by decide), Nat.add_zero, g 1 (by decide), g 2 (by decide), g 3 (by decide)]
 simp only [wB, List.getD_cons_zero, List.getD_cons_succ]
 omega
section
variable {zs ys : List Int} {p q : Nat} {o : On} {c m : Int} {r : Rw}
end
theorem rest_len {zs : List Int} {c m : Int} {p : Nat} {r : Rw} {i : In} (hp : p ≤ zs.length) (h : restM zs c m p r = .ok i) (hi : isB i = true) : (p : Int) ≤ i.len ∧ i.len ≤ zs.length := by
 by_cases h0 : opM c m r = 0
 ·rw [rest_zero h0] at h
  obtain rfl := Except.ok.inj h
  rw [isB_inZ] at hi; cases hi
 by_cases h1 : opM c m r = -1
 ·rw [rest_bad h1] at h; cases h
 cases hA : operM zs c m p r.a with
 | none => rw [rest_shortA rfl h0 h1 hA] at h; cases h
 | some x =>
  obtain ⟨A, q⟩ := x
  cases hB : operM zs c m q r.b with
  | none => rw [rest_shortB rfl h0 h1 hA hB] at h; cases h
  | some y =>
   obtain ⟨B, q'⟩ := y
   rw [rest_ok rfl h0 h1 hA hB] at h
   obtain rfl := Except.ok.inj h
   have l1 := operM_le hp hA
   have l2 := operM_le l1.2 hB
   dsimp only
   omega
theorem by_len {zs : List Int} {c : Int} {p : Nat} {r : Rw} {i : In} (hp : p ≤ zs.length) (h : byM zs c p r = .ok i) (hi : isB i = true) : (p : Int) ≤ i.len ∧ i.len ≤ zs.length := by
 unfold byM at h
 by_cases h6 : r.a = 6 ∨ r.b = 6
 ·rw [if_pos h6] at h
  by_cases hq : p + 1 ≤ zs.length
  ·rw [if_pos hq] at h
   have := rest_len hq h hi
   omega
  ·rw [if_neg hq] at h; cases h
 ·rw [if_neg h6] at h
  exact rest_len hp h hi
theorem first_len {zs : List Int} {c : Int} {p : Nat} {i : In} (hp : p ≤ zs.length) : ∀ L : List Rw, firstM zs c p L = .ok (some i) → isB i = true ∧ (p : Int) ≤ i.len ∧ i.len ≤ zs.length
 | [], h => by cases h
 | r :: rs, h => by
  rw [firstM] at h
  cases hf : fitB c r
  ·rw [hf] at h; exact first_len hp rs h
  ·rw [hf] at h
   simp only [if_true] at h
   cases hy : byM zs c p r with
   | error x => rw [hy] at h; cases h
   | ok j =>
    rw [hy] at h
    dsimp only at h
    cases hj : isB j
    ·rw [hj] at h; exact first_len hp rs h
    ·rw [hj] at h
     obtain rfl := Option.some.inj (Except.ok.inj h)
     exact ⟨hj, by_len hp hy hj⟩
theorem open_pos {zs : List Int} {c : Int} {p : Nat} (h : openM zs = some (c, p)) : 1 ≤ p ∧ p ≤ zs.length := by
 unfold openM at h
 (repeat' split at h) <;> first | (cases h; done) | (obtain ⟨-, rfl⟩ := Prod.mk.inj (Option.some.inj h); omega)
theorem dec_first {zs : List Int} {i : In} (h : decM zs = .ok i) : ∃ c p, openM zs = some (c, p) ∧ firstM zs c p (rowsOf c) = .ok (some i) := by
 cases ho : openM zs with
 | none => unfold decM at h; rw [ho] at h; cases h
 | some x =>
  obtain ⟨c, p⟩ := x
  rw [dec_rows ho] at h
  refine ⟨c, p, rfl, ?_⟩
  cases hf : firstM zs c p (rowsOf c) with
  | error x => rw [hf] at h; cases h
  | ok o =>
   cases o with
   | none => rw [hf] at h; cases h
   | some j => rw [hf] at h; obtain rfl := Except.ok.inj h; rfl
theorem dec_len {zs : List Int} {i : In} (h : decM zs = .ok i) : isB i = true ∧ 1 ≤ i.len ∧ i.len ≤ zs.length ∧ i.len ≤ 15 := by
 obtain ⟨c, p, ho, hf⟩ := dec_first h
 have hp := open_pos ho
 have := first_len hp.2 _ hf
 have hb := this.1
 unfold isB at hb
 simp only [Bool.and_eq_true, decide_eq_true_eq] at hb
 exact ⟨this.1, by omega, by omega, by omega⟩
end Go.Proofs.YtcgleggdochbeaaDoor
