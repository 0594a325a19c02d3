import Derived.Test.YtcgleggdochbeaaDoorS06
namespace Go.Proofs.YtcgleggdochbeaaDoor
open Go.RowKit
set_option linter.unusedVariables false
set_option linter.unusedSimpArgs false
set_option linter.unusedSectionVars false
def mW (pre : List Int) (o : On) (n : Int) : List (List Int) := (modT o n).map (pre ++ ·)
def b1 (l : List (List Int)) (v : Int) : List (List Int) := l.map (· ++ [v % 256])
def b4 (l : List (List Int)) (v : Int) : List (List Int) := l.map (· ++ wB v)
def bothW (ta fr : Int) (a b : On) : List (List Int) := (if b.k = 1 then mW [ta] a b.r else []) ++ (if a.k = 1 then mW [fr] b a.r else [])
def isR0 (o : On) : Bool := o.k == 1 && o.r == 0 && o.m == 0 && o.b == 0 && o.x == 0 && o.s == 0
theorem op_n {c n g cc op a b : Int} (h : ¬ op < 54) (hg : ¬ g = 65479) (hn : 0 ≤ n ∧ n < 8) : opM c (8 * n) ⟨g, cc, op, a, b⟩ = grp (op - 54).toNat n.toNat := by
 unfold opM
 dsimp only
 rw [if_neg h, if_neg hg, show 8 * n / 8 % 8 = n by omega]
theorem kind_of' {o : On} (h : RM o) : o.k = 1 ∨ o.k = 3 := by
 rcases h with ⟨r, h1, h2, rfl⟩ | ⟨m, b, x, s, rfl, h⟩ <;> simp [onReg, onMem]
theorem nat_of' {n : Int} (h : 0 ≤ n ∧ n < 8) : n = 0 ∨ n = 1 ∨ n = 2 ∨ n = 3 ∨ n = 4 ∨ n = 5 ∨ n = 6 ∨ n = 7 := by omega
theorem formsW {o : On} (hm : 0 ≤ o.m ∧ o.m ≤ 4294967295) : (∃ r, 0 ≤ r ∧ r < 8 ∧ o = onReg r) ∨ (∃ m, 0 ≤ m ∧ m ≤ 4294967295 ∧ o = onImm m) ∨ (RMb o ∧ o.k = 3) ∨ o = onZ ∨ cA o = 0 := by
 obtain ⟨k, r, m, b, x, s⟩ := o
 by_cases h0 : cA ⟨k, r, m, b, x, s⟩ = 0
 ·exact .inr (.inr (.inr (.inr h0)))
 unfold cA at h0
 dsimp only at h0
 by_cases k0 : k = 0
 ·subst k0
  cases hh : (r == 0 && m == 0 && b == 0 && x == 0 && s == 0)
  ·simp [hh] at h0
  ·simp at hh
   obtain ⟨⟨⟨⟨rfl, rfl⟩, rfl⟩, rfl⟩, rfl⟩ := hh
   exact .inr (.inr (.inr (.inl rfl)))
 rw [show (k == 0) = false by simp [k0]] at h0
 by_cases k1 : k = 1
 ·subst k1
  cases hh : (m == 0 && b == 0 && x == 0 && s == 0)
  ·simp [hh] at h0
  ·simp at hh
   obtain ⟨⟨⟨rfl, rfl⟩, rfl⟩, rfl⟩ := hh
   refine .inl ⟨r, ?_, ?_, rfl⟩
   all_goals
    simp [regA, isRegB] at h0
    cases h1 : (r == 1)
    ·rw [h1] at h0
     cases h2 : (decide (0 ≤ r) && decide (r < 8))
     ·rw [h2] at h0; simp at h0
     ·simp at h2; omega
    ·have : r = 1 := by simpa using h1
     omega
 rw [show (k == 1) = false by simp [k1]] at h0
 by_cases k2 : k = 2
 ·subst k2
  cases hh : (r == 0 && b == 0 && x == 0 && s == 0)
  ·simp [hh] at h0
  ·simp at hh
   obtain ⟨⟨⟨rfl, rfl⟩, rfl⟩, rfl⟩ := hh
   exact .inr (.inl ⟨m, hm.1, hm.2, rfl⟩)
 rw [show (k == 2) = false by simp [k2]] at h0
 by_cases k3 : k = 3
 ·subst k3
  by_cases r0 : r = 0
  ·subst r0
   have h8 : memA b x s = 8 := by
    have : memA b x s = 8 ∨ memA b x s = 0 := by unfold memA; cases ((b == -1 || isRegB b) && isIndexB x s) <;> simp
    rcases this with h | h
    ·exact h
    ·rw [h] at h0; simp at h0
   exact .inr (.inr (.inl ⟨⟨.inr ⟨m, b, x, s, rfl, h8⟩, hm⟩, rfl⟩))
  ·rw [show (r == 0) = false by simp [r0]] at h0; simp at h0
 ·rw [show (k == 3) = false by simp [k3]] at h0; simp at h0
def l8 : List Int := [0, 1, 2, 6, 8, 16, 48, 112]
theorem not_taken {op c : Int} {A B : On} {rep : Bool} {l : Int} {SA SB : List Int} {P : Prop} (hi : isB ⟨op, c, A, B, rep, l⟩ = true) (h : noB op SA SB = true) (hA : cA A ∈ SA) (hB : cA B ∈ SB) : P := by
 rw [isB_no h hA hB] at hi; cases hi
theorem reg_RMb {r : Int} (h : 0 ≤ r ∧ r < 8) : RMb (onReg r) := ⟨.inl ⟨r, h.1, h.2, rfl⟩, by simp [onReg], by simp [onReg]⟩
def ByWay (k : In) (w : List Int) : Prop := ∃ r c n t, ByRow k r c n t ∧ w = wayR r c t k.A k.B
theorem isB_parts {op c : Int} {A B : On} {rep : Bool} {l : Int} (h : isB ⟨op, c, A, B, rep, l⟩ = true) : (rR (rowN op) || !rep) = true ∧ knowsB (rowN op) c = true := by
 unfold isB at h
 simp only [Bool.and_eq_true] at h
 exact ⟨h.1.1.2, h.1.2⟩
theorem knows_no {k : Nat} (hk : rC k = false) {c : Int} (h : knowsB k c = true) : c = 0 := by unfold knowsB at h; rw [hk] at h; simpa using h
theorem knows_hi16 {k : Nat} (hk : rC k = true) {c : Int} (h : knowsB k c = true) : 0 ≤ c ∧ c ≤ 15 := by unfold knowsB at h; rw [hk] at h; simp at h; omega
theorem taken_in {op c : Int} {A B : On} {rep : Bool} {l : Int} (h : isB ⟨op, c, A, B, rep, l⟩ = true) : 1 ≤ op ∧ op ≤ 53 := by
 refine Decidable.byContradiction (fun hn => ?_)
 have h0 : rowN op = 0 := by
  by_cases e : op = 0
  ·subst e; rfl
  ·exact rowN_out (by omega)
 have ht : takesB 0 (cA A) (cA B) = false := by
  have hz : bits .and .i64 (cA A) 0 = 0 := by simp [bits]; rfl
  unfold takesB
  rw [show rA 0 = 0 from rfl, hz]
  rfl
 unfold isB at h
 dsimp only at h
 rw [h0, ht] at h
 simp at h
structure Fm where
 (c z s a b : Int)
 deriving DecidableEq
def sumF (n : Int) : List Fm := [⟨8 * n + 5, 0, 0, 1, 9⟩, ⟨131, 0, n, 6, 8⟩, ⟨129, 0, n, 6, 9⟩, ⟨8 * n + 1, 0, 9, 6, 5⟩, ⟨8 * n + 3, 0, 8, 5, 6⟩]
def turF (n : Int) : List Fm := [⟨211, 0, n, 6, 2⟩, ⟨209, 0, n, 6, 3⟩, ⟨193, 0, n, 6, 7⟩]
def fmsF (op : Int) : List Fm :=
 if 3 ≤ op ∧ op ≤ 10 then sumF (op - 3) else
 if op = 1 then [⟨184, 1, 0, 4, 9⟩, ⟨199, 0, 0, 6, 9⟩, ⟨137, 0, 9, 6, 5⟩, ⟨139, 0, 8, 5, 6⟩] else
 if op = 2 then [⟨176, 1, 0, 4, 7⟩, ⟨198, 0, 0, 6, 7⟩, ⟨136, 0, 9, 6, 5⟩, ⟨138, 0, 8, 5, 6⟩] else
 if op = 11 then [⟨133, 0, 9, 6, 5⟩, ⟨169, 0, 0, 1, 9⟩, ⟨247, 0, 0, 6, 9⟩] else
 if op = 12 then [⟨64, 1, 0, 4, 0⟩, ⟨255, 0, 0, 6, 0⟩] else if op = 13 then [⟨72, 1, 0, 4, 0⟩, ⟨255, 0, 1, 6, 0⟩] else
 if op = 14 then [⟨247, 0, 2, 6, 0⟩] else if op = 15 then [⟨247, 0, 3, 6, 0⟩] else if op = 16 then [⟨247, 0, 4, 6, 0⟩] else if op = 17 then [⟨247, 0, 5, 6, 0⟩] else
 if op = 18 then [⟨4015, 0, 8, 5, 6⟩] else if op = 19 then [⟨247, 0, 6, 6, 0⟩] else if op = 20 then [⟨247, 0, 7, 6, 0⟩] else
 if op = 21 then turF 0 else if op = 22 then turF 1 else if op = 23 then turF 4 else if op = 24 then turF 5 else if op = 25 then turF 7 else
 if op = 26 then [⟨141, 0, 8, 5, 6⟩] else if op = 27 then [⟨135, 0, 9, 6, 5⟩] else
 if op = 28 then [⟨106, 0, 0, 8, 0⟩, ⟨104, 0, 0, 9, 0⟩, ⟨80, 1, 0, 4, 0⟩, ⟨255, 0, 6, 6, 0⟩] else if op = 29 then [⟨88, 1, 0, 4, 0⟩] else
 if op = 30 then [⟨232, 0, 0, 9, 0⟩, ⟨255, 0, 2, 6, 0⟩] else if op = 31 then [⟨195, 0, 0, 0, 0⟩] else
 if op = 32 then [⟨235, 0, 0, 8, 0⟩, ⟨233, 0, 0, 9, 0⟩, ⟨255, 0, 4, 6, 0⟩] else if op = 33 then [⟨112, 2, 0, 8, 0⟩, ⟨3968, 2, 0, 9, 0⟩] else
 if op = 34 then [⟨3984, 2, 0, 6, 0⟩] else if op = 35 then [⟨3904, 2, 8, 5, 6⟩] else if op = 36 then [⟨4022, 0, 8, 5, 6⟩] else if op = 37 then [⟨4030, 0, 8, 5, 6⟩] else
 if op = 38 then [⟨153, 0, 0, 0, 0⟩] else if op = 39 then [⟨252, 0, 0, 0, 0⟩] else if op = 40 then [⟨253, 0, 0, 0, 0⟩] else
 if op = 41 then [⟨62373, 0, 0, 0, 0⟩, ⟨165, 0, 0, 0, 0⟩] else if op = 42 then [⟨62379, 0, 0, 0, 0⟩, ⟨171, 0, 0, 0, 0⟩] else
 if op = 43 then [⟨205, 0, 0, 7, 0⟩] else if op = 44 then [⟨144, 0, 0, 0, 0⟩] else if op = 45 then [⟨221, 0, 0, 6, 0⟩] else if op = 46 then [⟨221, 0, 3, 6, 0⟩] else
 if op = 47 then [⟨220, 0, 0, 6, 0⟩] else if op = 48 then [⟨220, 0, 1, 6, 0⟩] else if op = 49 then [⟨220, 0, 4, 6, 0⟩] else if op = 50 then [⟨220, 0, 6, 6, 0⟩] else
 if op = 51 then [⟨55776, 0, 0, 0, 0⟩] else if op = 52 then [⟨55777, 0, 0, 0, 0⟩] else if op = 53 then [⟨220, 0, 2, 6, 0⟩] else []
def opW (k : Int) (X : On) : List Int := if k = 7 ∨ k = 8 then [X.m % 256] else if k = 9 then wB X.m else []
def wayF (c : Int) (t : List Int) (a b : Int) (A B : On) : List Int := codeB c ++ t ++ (opW a A ++ opW b B)
def fK (x : Int) (o : On) : Bool :=
 if x = 1 then isR0 o else if x = 3 then o.k == 2 && o.m == 1 else if x = 8 then o.k == 2 && fitI o.m else if x = 2 ∨ x = 4 ∨ x = 5 then o.k == 1 else
 if x = 6 then o.k == 1 || o.k == 3 else if x = 7 ∨ x = 9 then o.k == 2 else o.k == 0
def addF (f : Fm) (k : In) : Int := if f.z = 1 then k.A.r else if f.z = 2 then k.c else 0
def nmF (f : Fm) (k : In) : Int := if f.s = 8 then k.A.r else if f.s = 9 then k.B.r else f.s
def expF (f : Fm) (k : In) : List (List Int) :=
 if (fK f.a k.A && fK f.b k.B && (k.rep == (f.c / 256 == 243))) = true then
  (if f.a = 6 then modT k.A (nmF f k) else if f.b = 6 then modT k.B (nmF f k) else [[]]).map (fun t => wayF (f.c + addF f k) t f.a f.b k.A k.B) else []
def waysL (k : In) : List (List Int) := (fmsF k.op).flatMap (fun f => expF f k)
def CbP (c : Int) : Prop := (0 ≤ c ∧ c ≤ 255 ∧ ¬ (c = 15 ∨ c = 217 ∨ c = 243)) ∨ (256 ≤ c ∧ c ≤ 65535 ∧ (c / 256 = 15 ∨ c / 256 = 217 ∨ c / 256 = 243))
instance (c : Int) : Decidable (CbP c) := by unfold CbP; infer_instance
def addsF (z : Int) : List Int := if z = 1 then [0, 1, 2, 3, 4, 5, 6, 7] else if z = 2 then [0, 1, 2, 3, 4, 5, 6, 7, 8, 9, 10, 11, 12, 13, 14, 15] else [0]
def numsF (s : Int) : List Int := if s = 8 ∨ s = 9 then [0, 1, 2, 3, 4, 5, 6, 7] else [s]
def chR (op : Int) (f : Fm) (j n : Int) (r : Rw) : Bool := r.a == f.a && r.b == f.b && opM (f.c + j) (8 * n) r == op && (r.g == 65520) == (f.z == 2)
def chJ (op : Int) (f : Fm) (j : Int) : Bool := decide (CbP (f.c + j)) && ((f.c + j) / 256 == 243) == (f.c / 256 == 243) && (f.z != 1 || (f.c + j) % 8 == j) && (f.z != 2 || (f.c + j) % 16 == j)
 && (numsF f.s).all fun n => decide (0 ≤ n ∧ n < 8) && (rowsOf (f.c + j)).any (chR op f j n)
def chC (op : Int) (f : Fm) : Bool := l8.all fun a => l8.all fun b => !takesB (rowN op) a b || ((f.a != 2 || a != 2) && (f.b != 2 || b != 2) && (f.a != 7 || a != 16) && (f.b != 7 || b != 16))
def chF (op : Int) (f : Fm) : Bool :=
 ((f.z == 1) == (f.a == 4) && (f.z == 2) == rC (rowN op) && (f.s == 8) == (f.a == 5) && (f.s == 9) == (f.b == 5) && !(f.a == 6 && f.b == 6) && f.b != 4 && (f.a == 6 || f.b == 6 || f.s == 0))
 && chC op f && (addsF f.z).all (chJ op f)
theorem chF_all : ∀ n : Nat, n < 54 → (fmsF (n : Int)).all (chF (n : Int)) = true := of_decide_eq_true (by kernel_rfl)
theorem chZ_all : ∀ n : Nat, n < 54 → (l8.all fun b => !takesB (rowN (n : Int)) 0 b && !takesB (rowN (n : Int)) b 0) = true := of_decide_eq_true (by kernel_rfl)
theorem opW_of {k c n : Int} {X : On} (h : opF k c n X) : opW k X = opB k X := by
 unfold opW opB
 by_cases h7 : k = 7
 ·subst h7
  have h := h.2
  rw [if_pos (.inl rfl), if_pos rfl, show X.m % 256 = X.m by omega]
 ·rw [if_neg h7]
  by_cases h8 : k = 8
  ·rw [if_pos (.inr h8), if_pos h8]
  ·rw [if_neg (fun h => h.elim h7 h8), if_neg h8]
theorem taken_ne {k : In} (hi : isB k = true) : cA k.A ≠ 0 ∧ cA k.B ≠ 0 ∧ takesB (rowN k.op) (cA k.A) (cA k.B) = true := by
 obtain ⟨op, c, A, B, rep, l⟩ := k
 have h := taken_in hi
 have ht : takesB (rowN op) (cA A) (cA B) = true := by unfold isB at hi; simp only [Bool.and_eq_true] at hi; exact hi.2
 obtain ⟨n, rfl⟩ := Int.eq_ofNat_of_zero_le (show 0 ≤ op by omega)
 have hz := chZ_all n (by omega)
 refine ⟨fun e => ?_, fun e => ?_, ht⟩
 ·have := List.all_eq_true.1 hz _ (cA_mem B)
  dsimp only at e ht
  rw [e] at ht
  rw [ht] at this
  simp at this
 ·have := List.all_eq_true.1 hz _ (cA_mem A)
  dsimp only at e ht
  rw [e] at ht
  rw [ht] at this
  simp at this
theorem opF_of {x c n : Int} {o : On} (hm : 0 ≤ o.m ∧ o.m ≤ 4294967295) (h0 : cA o ≠ 0) (h : fK x o = true) (h6 : ¬ x = 6) (h2 : x = 2 → cA o ≠ 2) (h7 : x = 7 → cA o ≠ 16) (h4 : x = 4 → o.r = c % 8) (h5 : x = 5 → o.r = n) (hx : 0 ≤ x ∧ x ≤ 9) : opF x c n o := by
 unfold fK at h
 unfold opF
 rcases formsW hm with ⟨r, r1, r2, rfl⟩ | ⟨m, m1, m2, rfl⟩ | ⟨hR, hk⟩ | rfl | hz
 ·have hc := cA_reg ⟨r1, r2⟩
  rcases (by omega : x = 0 ∨ x = 1 ∨ x = 2 ∨ x = 3 ∨ x = 4 ∨ x = 5 ∨ x = 7 ∨ x = 8 ∨ x = 9) with rfl | rfl | rfl | rfl | rfl | rfl | rfl | rfl | rfl
  ·cases h
  ·have : r = 0 := by simpa [isR0, onReg] using h
   subst this; rfl
  ·by_cases e : r = 1
   ·subst e; rfl
   ·rw [if_neg e] at hc; exact absurd hc (h2 rfl)
  ·cases h
  ·have := h4 rfl; dsimp only [onReg] at this; subst this; rfl
  ·have := h5 rfl; dsimp only [onReg] at this; subst this; rfl
  ·cases h
  ·cases h
  ·cases h
 ·rcases (by omega : x = 0 ∨ x = 1 ∨ x = 2 ∨ x = 3 ∨ x = 4 ∨ x = 5 ∨ x = 7 ∨ x = 8 ∨ x = 9) with rfl | rfl | rfl | rfl | rfl | rfl | rfl | rfl | rfl
  ·cases h
  ·cases h
  ·cases h
  ·have : m = 1 := by simpa [onImm] using h
   subst this; rfl
  ·cases h
  ·cases h
  ·have hc := cA_imm (n := m)
   refine ⟨rfl, m1, ?_⟩
   dsimp only [onImm]
   refine Decidable.byContradiction (fun hn => ?_)
   rw [if_neg (by omega), if_neg (by omega)] at hc
   exact h7 rfl hc
  ·exact ⟨rfl, by simpa [onImm] using h, m1, m2⟩
  ·exact ⟨rfl, m1, m2⟩
 ·rcases (by omega : x = 0 ∨ x = 1 ∨ x = 2 ∨ x = 3 ∨ x = 4 ∨ x = 5 ∨ x = 7 ∨ x = 8 ∨ x = 9) with rfl | rfl | rfl | rfl | rfl | rfl | rfl | rfl | rfl
  all_goals (exfalso; revert h; simp [isR0, hk])
 ·rcases (by omega : x = 0 ∨ x = 1 ∨ x = 2 ∨ x = 3 ∨ x = 4 ∨ x = 5 ∨ x = 7 ∨ x = 8 ∨ x = 9) with rfl | rfl | rfl | rfl | rfl | rfl | rfl | rfl | rfl
  ·rfl
  all_goals cases h
 ·exact absurd hz h0
theorem RMb_of {o : On} (hm : 0 ≤ o.m ∧ o.m ≤ 4294967295) (h0 : cA o ≠ 0) (h : fK 6 o = true) : RMb o := by
 rcases formsW hm with ⟨r, r1, r2, rfl⟩ | ⟨m, m1, m2, rfl⟩ | ⟨hR, hk⟩ | rfl | hz
 ·exact reg_RMb ⟨r1, r2⟩
 ·cases h
 ·exact hR
 ·cases h
 ·exact absurd hz h0
theorem reg_of {o : On} (hm : 0 ≤ o.m ∧ o.m ≤ 4294967295) (h0 : cA o ≠ 0) (h : o.k = 1) : 0 ≤ o.r ∧ o.r < 8 := by
 rcases formsW hm with ⟨r, r1, r2, rfl⟩ | ⟨m, m1, m2, rfl⟩ | ⟨hR, hk⟩ | rfl | hz
 ·exact ⟨r1, r2⟩
 ·cases h
 ·omega
 ·cases h
 ·exact absurd hz h0
theorem beqs {a b c d : Int} (h : (a == b) = (c == d)) : a = b ↔ c = d := by
 constructor
 ·intro e; exact eq_of_beq (h.symm.trans (by rw [e]; exact beq_self_eq_true _))
 ·intro e; exact eq_of_beq (h.trans (by rw [e]; exact beq_self_eq_true _))
theorem rows_rng : ∀ r ∈ singleL ++ doubleL, (0 ≤ r.a ∧ r.a ≤ 9) ∧ (0 ≤ r.b ∧ r.b ≤ 9) := by
 have : (singleL ++ doubleL).all (fun r => decide ((0 ≤ r.a ∧ r.a ≤ 9) ∧ (0 ≤ r.b ∧ r.b ≤ 9))) = true := by kernel_rfl
 intro r hr
 simpa using List.all_eq_true.1 this r hr
theorem bw_any {k : In} (hi : isB k = true) (hA : 0 ≤ k.A.m ∧ k.A.m ≤ 4294967295) (hB : 0 ≤ k.B.m ∧ k.B.m ≤ 4294967295) {w : List Int} (hw : w ∈ waysL k) : ByWay k w := by
 obtain ⟨f, hf, hw⟩ := List.mem_flatMap.1 hw
 have hop : 1 ≤ k.op ∧ k.op ≤ 53 := by obtain ⟨op, c, A, B, rep, l⟩ := k; exact taken_in hi
 obtain ⟨a0, b0, htk⟩ := taken_ne hi
 have hch : chF k.op f = true := by
  obtain ⟨n, hn⟩ := Int.eq_ofNat_of_zero_le (show 0 ≤ k.op by omega)
  rw [hn] at hf ⊢
  exact List.all_eq_true.1 (chF_all n (by omega)) f hf
 obtain ⟨hrep, hcc⟩ : (rR (rowN k.op) || !k.rep) = true ∧ knowsB (rowN k.op) k.c = true := by obtain ⟨op, c, A, B, rep, l⟩ := k; exact isB_parts hi
 unfold expF at hw
 split at hw
 case isFalse => cases hw
 rename_i hc
 simp only [Bool.and_eq_true, beq_iff_eq] at hc
 obtain ⟨⟨fa, fb⟩, frep⟩ := hc
 obtain ⟨t, ht, rfl⟩ := List.mem_map.1 hw
 unfold chF at hch
 simp only [Bool.and_eq_true, beq_iff_eq] at hch
 obtain ⟨⟨⟨⟨⟨⟨⟨⟨c1, c2⟩, c3⟩, c4⟩, c5⟩, c6⟩, c7⟩, hC⟩, hJ⟩ := hch
 have e1 : f.z = 1 ↔ f.a = 4 := beqs c1
 have e3 : f.s = 8 ↔ f.a = 5 := beqs c3
 have e4 : f.s = 9 ↔ f.b = 5 := beqs c4
 have kA : f.a = 4 ∨ f.a = 5 → k.A.k = 1 := by
  intro h
  unfold fK at fa
  rcases h with h | h <;> (rw [h] at fa; simpa using fa)
 have kB : f.b = 5 → k.B.k = 1 := by
  intro h
  unfold fK at fb
  rw [h] at fb; simpa using fb
 have hj : addF f k ∈ addsF f.z := by
  unfold addF addsF
  by_cases z1 : f.z = 1
  ·rw [if_pos z1, if_pos z1]
   have := reg_of hA a0 (kA (.inl (e1.1 z1)))
   simp; omega
  ·rw [if_neg z1, if_neg z1]
   by_cases z2 : f.z = 2
   ·rw [if_pos z2, if_pos z2]
    have := knows_hi16 (by rw [← c2, z2]; rfl) hcc
    simp; omega
   ·rw [if_neg z2, if_neg z2]; simp
 have hJ := List.all_eq_true.1 hJ _ hj
 unfold chJ at hJ
 simp only [Bool.and_eq_true, beq_iff_eq, decide_eq_true_eq] at hJ
 obtain ⟨⟨⟨⟨hcb, h243⟩, hz1⟩, hz2⟩, hN⟩ := hJ
 have hn : nmF f k ∈ numsF f.s := by
  unfold nmF numsF
  by_cases s8 : f.s = 8
  ·rw [if_pos s8, if_pos (.inl s8)]
   have := reg_of hA a0 (kA (.inr (e3.1 s8)))
   simp; omega
  ·rw [if_neg s8]
   by_cases s9 : f.s = 9
   ·rw [if_pos s9, if_pos (.inr s9)]
    have := reg_of hB b0 (kB (e4.1 s9))
    simp; omega
   ·rw [if_neg s9, if_neg (fun h => h.elim s8 s9)]; simp
 have hN := List.all_eq_true.1 hN _ hn
 simp only [Bool.and_eq_true, decide_eq_true_eq] at hN
 obtain ⟨nb, hR⟩ := hN
 obtain ⟨r, hr, hR⟩ := List.any_eq_true.1 hR
 unfold chR at hR
 simp only [Bool.and_eq_true, beq_iff_eq] at hR
 obtain ⟨⟨⟨ra, rb⟩, rop⟩, rg⟩ := hR
 have rg : r.g = 65520 ↔ f.z = 2 := beqs rg
 have hC := List.all_eq_true.1 (List.all_eq_true.1 hC _ (cA_mem k.A)) _ (cA_mem k.B)
 rw [htk] at hC
 simp only [Bool.not_true, Bool.false_or, Bool.and_eq_true, Bool.or_eq_true, bne_iff_ne, ne_eq] at hC
 obtain ⟨⟨⟨hC1, hC2⟩, hC3⟩, hC4⟩ := hC
 have hab := rows_ab r (rowIn hr).1
 have hA' : ¬ f.a = 6 → opF f.a (f.c + addF f k) (nmF f k) k.A := fun h6 => by
  refine opF_of hA a0 fa h6 (fun e => hC1.resolve_left (fun h => h e)) (fun e => hC3.resolve_left (fun h => h e)) (fun e => ?_) (fun e => ?_) ?_
  ·have z1 := e1.2 e
   have : (f.c + addF f k) % 8 = addF f k := by simpa [z1] using hz1
   rw [this]; unfold addF; rw [if_pos z1]
  ·unfold nmF; rw [if_pos (e3.2 e)]
  ·exact ra ▸ (rows_rng r (rowIn hr).1).1
 have hB' : ¬ f.b = 6 → opF f.b (f.c + addF f k) (nmF f k) k.B := fun h6 => by
  refine opF_of hB b0 fb h6 (fun e => hC2.resolve_left (fun h => h e)) (fun e => hC4.resolve_left (fun h => h e)) (fun e => ?_) (fun e => ?_) ?_
  ·rw [e] at c6; simp at c6
  ·unfold nmF
   have s9 := e4.2 e
   rw [if_neg (by omega), if_pos s9]
  ·exact rb ▸ (rows_rng r (rowIn hr).1).2
 refine ⟨r, f.c + addF f k, nmF f k, t, ⟨hr, hcb, nb, rop, ⟨by omega, by omega⟩, ?_, ?_, ?_, ?_, ?_⟩, ?_⟩
 ·by_cases z2 : f.z = 2
  ·rw [if_pos (rg.2 z2)]
   have : (f.c + addF f k) % 16 = addF f k := by simpa [z2] using hz2
   rw [this]; unfold addF; rw [if_neg (by omega), if_pos z2]
  ·rw [if_neg (fun h => z2 (rg.1 h))]
   refine knows_no (Eq.symm ?_) hcc
   rw [← c2]; simp [z2]
 ·rw [frep, h243]
 ·rw [ra]
  by_cases h6 : f.a = 6
  ·rw [if_pos h6] at ht ⊢
   exact ⟨RMb_of hA a0 (h6 ▸ fa), ht⟩
  ·rw [if_neg h6]; exact hA' h6
 ·rw [rb]
  by_cases h6 : f.b = 6
  ·have ha : ¬ f.a = 6 := fun h => by have := hab.1 (ra.trans h); exact this (rb.trans h6)
   rw [if_neg ha, if_pos h6] at ht
   rw [if_pos h6]
   exact ⟨RMb_of hB b0 (h6 ▸ fb), ht⟩
  ·rw [if_neg h6]; exact hB' h6
 ·intro h
  rw [ra, rb] at h
  rw [if_neg (fun e => h (.inl e)), if_neg (fun e => h (.inr e))] at ht
  refine ⟨List.mem_singleton.1 ht, ?_⟩
  have s0 : f.s = 0 := by
   have a6 : (f.a == 6) = false := by simpa using fun e => h (.inl e)
   have b6 : (f.b == 6) = false := by simpa using fun e => h (.inr e)
   simpa [a6, b6] using c7
  unfold nmF; rw [s0]; rfl
 ·unfold wayF wayR
  have xa : opW f.a k.A = opB r.a k.A := by
   rw [ra]
   by_cases h6 : f.a = 6
   ·rw [h6]; rfl
   ·exact opW_of (hA' h6)
  have xb : opW f.b k.B = opB r.b k.B := by
   rw [rb]
   by_cases h6 : f.b = 6
   ·rw [h6]; rfl
   ·exact opW_of (hB' h6)
  rw [xa, xb]
def chM (c n : Int) (r : Rw) : Bool :=
 let op := opM c (8 * n) r
 op == 0 || op == -1 || (!(r.a == 6 || r.b == 6) && n != 0) ||
 (fmsF op).any (fun f => f.a == r.a && f.b == r.b && f.z == (if r.a = 4 then 1 else if r.g = 65520 then 2 else 0) && f.c == c - (if r.a = 4 then c % 8 else if r.g = 65520 then c % 16 else 0)
  && (f.c / 256 == 243) == (c / 256 == 243) && f.s == (if r.a = 5 then 8 else if r.b = 5 then 9 else n))
def chN (c : Int) : Bool := (List.range 8).all (fun n => (rowsOf c).all (chM c (n : Int)))
theorem chN1 : ∀ n : Nat, n < 256 → chN (n : Int) = true := of_decide_eq_true (by kernel_rfl)
theorem chN15 : ∀ n : Nat, n < 256 → chN (3840 + (n : Int)) = true := of_decide_eq_true (by kernel_rfl)
theorem chN217 : ∀ n : Nat, n < 256 → chN (55552 + (n : Int)) = true := of_decide_eq_true (by kernel_rfl)
theorem chN243 : ∀ n : Nat, n < 256 → chN (62208 + (n : Int)) = true := of_decide_eq_true (by kernel_rfl)
theorem chM_of {c n : Int} (hc : CbP c) (hn : 0 ≤ n ∧ n < 8) {r : Rw} (hr : r ∈ rowsOf c) : chM c n r = true := by
 have hA : chN c = true := by
  rcases hc with ⟨h1, h2, -⟩ | ⟨h1, h2, h3 | h3 | h3⟩
  ·obtain ⟨m, rfl⟩ := Int.eq_ofNat_of_zero_le h1
   exact chN1 m (by omega)
  ·obtain ⟨m, hm⟩ := Int.eq_ofNat_of_zero_le (show 0 ≤ c - 3840 by omega)
   obtain rfl : c = 3840 + (m : Int) := by omega
   exact chN15 m (by omega)
  ·obtain ⟨m, hm⟩ := Int.eq_ofNat_of_zero_le (show 0 ≤ c - 55552 by omega)
   obtain rfl : c = 55552 + (m : Int) := by omega
   exact chN217 m (by omega)
  ·obtain ⟨m, hm⟩ := Int.eq_ofNat_of_zero_le (show 0 ≤ c - 62208 by omega)
   obtain rfl : c = 62208 + (m : Int) := by omega
   exact chN243 m (by omega)
 obtain ⟨m, rfl⟩ := Int.eq_ofNat_of_zero_le hn.1
 exact List.all_eq_true.1 (List.all_eq_true.1 hA m (by simp; omega)) r hr
theorem fK_of {x c n : Int} {o : On} (h6 : ¬ x = 6) (h0 : x = 0 ∨ (1 ≤ x ∧ x ≤ 9)) (h : opF x c n o) : fK x o = true := by
 unfold opF at h
 unfold fK
 rcases (by omega : x = 0 ∨ x = 1 ∨ x = 2 ∨ x = 3 ∨ x = 4 ∨ x = 5 ∨ x = 7 ∨ x = 8 ∨ x = 9) with rfl | rfl | rfl | rfl | rfl | rfl | rfl | rfl | rfl
 ·have h : o = onZ := h
  subst h; rfl
 ·have h : o = onReg 0 := h
  subst h; rfl
 ·have h : o = onReg 1 := h
  subst h; rfl
 ·have h : o = onImm 1 := h
  subst h; rfl
 ·have h : o = onReg (c % 8) := h
  subst h; rfl
 ·have h : o = onReg n := h
  subst h; rfl
 ·have h : o = onImm o.m ∧ 0 ≤ o.m ∧ o.m ≤ 255 := h
  rw [h.1]; rfl
 ·have h : o = onImm o.m ∧ fitI o.m = true ∧ 0 ≤ o.m ∧ o.m ≤ 4294967295 := h
  have hf := h.2.1
  rw [h.1]
  exact hf
 ·have h : o = onImm o.m ∧ 0 ≤ o.m ∧ o.m ≤ 4294967295 := h
  rw [h.1]; rfl
theorem fK_6 {o : On} (h : RMb o) : fK 6 o = true := by
 unfold fK
 rcases kind_of' h.1 with h | h <;> simp [h]
theorem mw_any {k : In} {r : Rw} {c n : Int} {t : List Int} (H : ByRow k r c n t) (hi : isB k = true) : wayR r c t k.A k.B ∈ waysL k := by
 have hch := chM_of H.cb H.nb H.row
 have hab := rows_ab r (rowIn H.row).1
 have hrng := rows_rng r (rowIn H.row).1
 obtain ⟨hne0, hne1⟩ := H.ne
 have hplace : ¬ ((!(r.a == 6 || r.b == 6) && n != 0) = true) := by
  by_cases h6 : r.a = 6 ∨ r.b = 6
  ·rcases h6 with h | h <;> simp [h]
  ·simp [(H.T h6).2]
 unfold chM at hch
 rw [H.op] at hch
 dsimp only at hch
 rw [Bool.or_eq_true, Bool.or_eq_true, Bool.or_eq_true] at hch
 replace hch := (hch.resolve_left (fun h => h.elim (fun h => h.elim (fun h => hne0 (by simpa using h)) (fun h => hne1 (by simpa using h))) hplace))
 obtain ⟨f, hf, hch⟩ := List.any_eq_true.1 hch
 simp only [Bool.and_eq_true, beq_iff_eq] at hch
 obtain ⟨⟨⟨⟨⟨ea, eb⟩, ez⟩, ec⟩, eh⟩, es⟩ := hch
 have hA := H.A
 have hB := H.B
 have had : addF f k = (if r.a = 4 then c % 8 else if r.g = 65520 then c % 16 else 0) := by
  unfold addF
  by_cases a4 : r.a = 4
  ·rw [if_neg (by omega), a4] at hA
   have hA : k.A = onReg (c % 8) := hA
   rw [if_pos a4] at ez
   rw [if_pos ez, if_pos a4, hA]; rfl
  ·rw [if_neg a4] at ez ⊢
   by_cases g : r.g = 65520
   ·rw [if_pos g] at ez ⊢
    rw [if_neg (by omega), if_pos ez, H.cc, if_pos g]
   ·rw [if_neg g] at ez ⊢
    rw [if_neg (by omega), if_neg (by omega)]
 have hcd : f.c + addF f k = c := by rw [had, ec]; omega
 have hnm : (r.a = 6 ∨ r.b = 6) → nmF f k = n := by
  intro h6
  unfold nmF
  by_cases a5 : r.a = 5
  ·rw [if_neg (by omega), a5] at hA
   have hA : k.A = onReg n := hA
   rw [if_pos a5] at es
   rw [if_pos es, hA]; rfl
  ·rw [if_neg a5] at es
   by_cases b5 : r.b = 5
   ·rw [if_neg (by omega), b5] at hB
    have hB : k.B = onReg n := hB
    rw [if_pos b5] at es
    rw [if_neg (by omega), if_pos es, hB]; rfl
   ·rw [if_neg b5] at es
    have := H.nb
    rw [if_neg (by omega), if_neg (by omega), es]
 refine List.mem_flatMap.2 ⟨f, hf, ?_⟩
 unfold expF
 have fa : fK f.a k.A = true := by
  rw [ea]
  by_cases h6 : r.a = 6
  ·rw [if_pos h6] at hA; rw [h6]; exact fK_6 hA.1
  ·rw [if_neg h6] at hA; exact fK_of h6 (by omega) hA
 have fb : fK f.b k.B = true := by
  rw [eb]
  by_cases h6 : r.b = 6
  ·rw [if_pos h6] at hB; rw [h6]; exact fK_6 hB.1
  ·rw [if_neg h6] at hB; exact fK_of h6 (by omega) hB
 rw [if_pos (by rw [fa, fb, H.rep, eh]; simp)]
 refine List.mem_map.2 ⟨t, ?_, ?_⟩
 ·rw [ea, eb]
  by_cases a6 : r.a = 6
  ·rw [if_pos a6] at hA ⊢
   rw [hnm (.inl a6)]; exact hA.2
  ·rw [if_neg a6]
   by_cases b6 : r.b = 6
   ·rw [if_pos b6] at hB ⊢
    rw [hnm (.inr b6)]; exact hB.2
   ·rw [if_neg b6, (H.T (fun h => h.elim a6 b6)).1]; simp
 ·rw [hcd, ea, eb]
  unfold wayF wayR
  have xa : opW r.a k.A = opB r.a k.A := by
   by_cases h6 : r.a = 6
   ·rw [h6]; rfl
   ·rw [if_neg h6] at hA; exact opW_of hA
  have xb : opW r.b k.B = opB r.b k.B := by
   by_cases h6 : r.b = 6
   ·rw [h6]; rfl
   ·rw [if_neg h6] at hB; exact opW_of hB
  rw [xa, xb]
end Go.Proofs.YtcgleggdochbeaaDoor
