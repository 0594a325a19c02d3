/-
  WORDS OF THE HOST: forms, bits, ranges; no program in sight.
-/
import Derived.Test.YtbalnlodkiejcaaDoorKit
namespace Go.Proofs.YtbalnlodkiejcaaDoor
open Go.RowKit
set_option linter.unusedVariables false
set_option linter.unusedSimpArgs false

def forms : List Nat := [0, 1, 1, 2, 3, 6, 6, 6, 6, 6, 6, 4, 4, 4, 4, 4, 5, 5, 5, 3, 3, 3, 3, 3, 3, 7, 7, 7, 8, 8, 8, 8, 8, 8, 8, 8, 8, 8, 8, 8, 8, 8, 8, 8, 8, 8, 9, 9]
def bitsT : List Nat := [0, 0x37, 0x17, 0x6f, 0x67, 0x63, 0x1063, 0x4063, 0x5063, 0x6063, 0x7063, 3, 0x1003, 0x2003, 0x4003, 0x5003, 0x23, 0x1023, 0x2023,
  0x13, 0x2013, 0x3013, 0x4013, 0x6013, 0x7013, 0x1013, 0x5013, 0x40005013, 0x33, 0x40000033, 0x1033, 0x2033, 0x3033, 0x4033, 0x5033, 0x40005033, 0x6033, 0x7033,
  0x2000033, 0x2001033, 0x2002033, 0x2003033, 0x2004033, 0x2005033, 0x2006033, 0x2007033, 0x73, 0x100073]
/-- The form of a kind. -/
def formN (op : Nat) : Nat := forms.getD op 0
/-- The bits in which all words of a kind are alike. -/
def bitsN (op : Nat) : Nat := bitsT.getD op 0
def hasD (f : Nat) : Bool := f == 1 || f == 2 || f == 3 || f == 4 || f == 7 || f == 8
def hasS (f : Nat) : Bool := f == 3 || f == 4 || f == 5 || f == 6 || f == 7 || f == 8
def hasT (f : Nat) : Bool := f == 5 || f == 6 || f == 8
def leastN (f : Nat) : Int := [0, -2147483648, -1048576, -2048, -2048, -2048, -4096, 0, 0, 0].getD f 0
def greatestN (f : Nat) : Int := [0, 2147479552, 1048574, 2047, 2047, 2047, 4094, 31, 0, 0].getD f 0
def lowN (f : Nat) : Int := [0, 4095, 1, 0, 0, 0, 1, 0, 0, 0].getD f 0
def regL (i : Int) (there : Bool) : Bool := decide (i = 0) || (there && decide (0 < i) && decide (i < 32))
def okF (f : Nat) (d s t i : Int) : Bool :=
  regL d (hasD f) && regL s (hasS f) && regL t (hasT f) && decide (leastN f ≤ i) && decide (i ≤ greatestN f) && decide (i % (lowN f + 1) = 0)
/-- Whether it is a word. -/
def isL (op d s t i : Int) : Bool := decide (1 ≤ op) && decide (op ≤ 47) && okF (formN op.toNat) d s t i
def spreadL (f : Nat) (u : Int) : Int :=
  match f with
  | 1 => u
  | 2 => u / 1048576 % 2 * 2147483648 + u / 2 % 1024 * 2097152 + u / 2048 % 2 * 1048576 + u / 4096 % 256 * 4096
  | 6 => u / 4096 % 2 * 2147483648 + u / 32 % 64 * 33554432 + u / 2 % 16 * 256 + u / 2048 % 2 * 128
  | 5 => u / 32 % 128 * 33554432 + u % 32 * 128
  | _ => u * 1048576 % 4294967296
/-- A word's 32 bits. -/
def encF (f : Nat) (b d s t i : Int) : Int := b + d * 128 + s * 32768 + t * 1048576 + spreadL f (i % 4294967296)
def encL (op d s t i : Int) : Int := encF (formN op.toNat) (bitsN op.toNat) d s t i
def maskL (f : Nat) (x : Int) : Int :=
  match f with
  | 0 => 0
  | 1 | 2 => x % 128
  | 3 | 4 | 5 | 6 => x % 128 + x / 4096 % 8 * 4096
  | 7 | 8 => x % 128 + x / 4096 % 8 * 4096 + x / 33554432 * 33554432
  | _ => x
def sx (n : Nat) (v : Int) : Int := if v < 2 ^ n then v else v - 2 ^ (n + 1)
/-- The immediate of 32 bits, told by a form. -/
def immL (f : Nat) (x : Int) : Int :=
  match f with
  | 1 => wrap32 (x / 4096 * 4096)
  | 2 => sx 20 (x / 2147483648 % 2 * 1048576 + x / 4096 % 256 * 4096 + x / 1048576 % 2 * 2048 + x / 2097152 % 1024 * 2)
  | 3 | 4 => sx 11 (x / 1048576 % 4096)
  | 5 => sx 11 (x / 33554432 % 128 * 32 + x / 128 % 32)
  | 6 => sx 12 (x / 2147483648 % 2 * 4096 + x / 128 % 2 * 2048 + x / 33554432 % 64 * 32 + x / 256 % 16 * 2)
  | 7 => x / 1048576 % 32
  | _ => 0
def dL (f : Nat) (x : Int) : Int := if hasD f then x / 128 % 32 else 0
def sL (f : Nat) (x : Int) : Int := if hasS f then x / 32768 % 32 else 0
def tL (f : Nat) (x : Int) : Int := if hasT f then x / 1048576 % 32 else 0
def matchL (op : Nat) (x : Int) : Bool := decide (maskL (formN op) x = bitsN op)

theorem opCases {op : Nat} (h1 : 1 ≤ op) (h2 : op ≤ 47) : formN op = 1 ∨ formN op = 2 ∨ formN op = 3 ∨ formN op = 4 ∨ formN op = 5 ∨ formN op = 6 ∨ formN op = 7 ∨ formN op = 8 ∨ formN op = 9 := by
  have h : ∀ k : Fin 48, 1 ≤ k.val → formN k = 1 ∨ formN k = 2 ∨ formN k = 3 ∨ formN k = 4 ∨ formN k = 5 ∨ formN k = 6 ∨ formN k = 7 ∨ formN k = 8 ∨ formN k = 9 := by decide +kernel
  exact h ⟨op, by omega⟩ h1
/-- What a kind's bits are, by its form. -/
def shapeOk (f b : Nat) : Bool :=
  (f == 1 || f == 2) && decide (b < 128) || (f == 3 || f == 4 || f == 5 || f == 6) && decide (b = b % 128 + b / 4096 % 8 * 4096) && decide (b < 32768)
  || (f == 7 || f == 8) && decide (b = b % 128 + b / 4096 % 8 * 4096 + b / 33554432 * 33554432) && decide (b < 4294967296) || f == 9 && (b == 0x73 || b == 0x100073)
theorem shape_ok {op : Nat} (h1 : 1 ≤ op) (h2 : op ≤ 47) : shapeOk (formN op) (bitsN op) = true := by
  have h : ∀ k : Fin 48, 1 ≤ k.val → shapeOk (formN k) (bitsN k) = true := by decide +kernel
  exact h ⟨op, by omega⟩ h1

theorem regL_iff (i : Int) (there : Bool) : regL i there = true ↔ (0 ≤ i ∧ i < 32 ∧ (there = false → i = 0)) := by
  unfold regL
  cases there <;> simp <;> omega

/-! ### What is read is written as it was -/

theorem mod_bd {x k : Int} (h : 0 < k) : 0 ≤ x % k ∧ x % k < k := ⟨Int.emod_nonneg _ (by omega), Int.emod_lt_of_pos _ h⟩

theorem back1 (b x : Int) (hx : 0 ≤ x ∧ x ≤ 4294967295) (hb : x % 128 = b) : encF 1 b (dL 1 x) (sL 1 x) (tL 1 x) (immL 1 x) = x ∧ okF 1 (dL 1 x) (sL 1 x) (tL 1 x) (immL 1 x) = true := by
  simp only [encF, spreadL, dL, sL, tL, immL, hasD, hasS, hasT, okF, leastN, greatestN, lowN, Bool.and_eq_true, regL_iff, decide_eq_true_eq, mod32_wrap]
  simp
  refine ⟨?_, ?_⟩
  · omega
  · unfold wrap32; omega
theorem j_imm (e a p c : Int) (he : 0 ≤ e ∧ e < 2) (ha : 0 ≤ a ∧ a < 256) (hp : 0 ≤ p ∧ p < 2) (hc : 0 ≤ c ∧ c < 1024) :
    spreadL 2 (sx 20 (e * 1048576 + a * 4096 + p * 2048 + c * 2) % 4294967296) = e * 2147483648 + c * 2097152 + p * 1048576 + a * 4096
    ∧ -1048576 ≤ sx 20 (e * 1048576 + a * 4096 + p * 2048 + c * 2) ∧ sx 20 (e * 1048576 + a * 4096 + p * 2048 + c * 2) ≤ 1048574 ∧ sx 20 (e * 1048576 + a * 4096 + p * 2048 + c * 2) % 2 = 0 := by
  have h : e = 0 ∨ e = 1 := by omega
  rcases h with rfl | rfl
  · unfold sx; rw [if_pos (by omega)]; refine ⟨?_, by omega, by omega, by omega⟩
    rw [Int.emod_eq_of_lt (by omega) (by omega)]
    simp only [spreadL]; omega
  · unfold sx; rw [if_neg (by omega)]; refine ⟨?_, by omega, by omega, by omega⟩
    rw [show (1 * 1048576 + a * 4096 + p * 2048 + c * 2 - 2 ^ (20 + 1)) % 4294967296 = 4293918720 + a * 4096 + p * 2048 + c * 2 by omega]
    simp only [spreadL]; omega
theorem back2 (b x : Int) (hx : 0 ≤ x ∧ x ≤ 4294967295) (hb : x % 128 = b) : encF 2 b (dL 2 x) (sL 2 x) (tL 2 x) (immL 2 x) = x ∧ okF 2 (dL 2 x) (sL 2 x) (tL 2 x) (immL 2 x) = true := by
  obtain ⟨h1, h2, h3, h4⟩ := j_imm (x / 2147483648 % 2) (x / 4096 % 256) (x / 1048576 % 2) (x / 2097152 % 1024) (mod_bd (by decide)) (mod_bd (by decide)) (mod_bd (by decide)) (mod_bd (by decide))
  simp only [encF, dL, sL, tL, immL, hasD, hasS, hasT, okF, leastN, greatestN, lowN, Bool.and_eq_true, regL_iff, decide_eq_true_eq]
  simp only [h1]
  simp
  refine ⟨?_, ?_⟩
  · clear h1 h2 h3 h4; omega
  · refine ⟨⟨⟨?_, h2⟩, h3⟩, ?_⟩
    · omega
    · omega
theorem i_imm (v : Int) (hv : 0 ≤ v ∧ v < 4096) : spreadL 3 (sx 11 v % 4294967296) = v * 1048576 ∧ -2048 ≤ sx 11 v ∧ sx 11 v ≤ 2047 := by
  unfold sx spreadL
  split <;> refine ⟨?_, by omega, by omega⟩ <;> (try simp only []) <;> omega
theorem s_imm (h l : Int) (hh : 0 ≤ h ∧ h < 128) (hl : 0 ≤ l ∧ l < 32) :
    spreadL 5 (sx 11 (h * 32 + l) % 4294967296) = h * 33554432 + l * 128 ∧ -2048 ≤ sx 11 (h * 32 + l) ∧ sx 11 (h * 32 + l) ≤ 2047 := by
  by_cases c : h * 32 + l < 2 ^ 11
  · unfold sx; rw [if_pos c]; refine ⟨?_, by omega, by omega⟩; simp only [spreadL]; omega
  · unfold sx; rw [if_neg c]; refine ⟨?_, by omega, by omega⟩; simp only [spreadL]; omega
theorem b_imm (e p h l : Int) (he : 0 ≤ e ∧ e < 2) (hp : 0 ≤ p ∧ p < 2) (hh : 0 ≤ h ∧ h < 64) (hl : 0 ≤ l ∧ l < 16) :
    spreadL 6 (sx 12 (e * 4096 + p * 2048 + h * 32 + l * 2) % 4294967296) = e * 2147483648 + h * 33554432 + l * 256 + p * 128
    ∧ -4096 ≤ sx 12 (e * 4096 + p * 2048 + h * 32 + l * 2) ∧ sx 12 (e * 4096 + p * 2048 + h * 32 + l * 2) ≤ 4094 ∧ sx 12 (e * 4096 + p * 2048 + h * 32 + l * 2) % 2 = 0 := by
  have h : e = 0 ∨ e = 1 := by omega
  rcases h with rfl | rfl
  · unfold sx; rw [if_pos (by omega)]; refine ⟨?_, by omega, by omega, by omega⟩
    rw [Int.emod_eq_of_lt (by omega) (by omega)]
    simp only [spreadL]; omega
  · unfold sx; rw [if_neg (by omega)]; refine ⟨?_, by omega, by omega, by omega⟩
    rw [show (1 * 4096 + p * 2048 + h * 32 + l * 2 - 2 ^ (12 + 1)) % 4294967296 = 4294963200 + p * 2048 + h * 32 + l * 2 by omega]
    simp only [spreadL]; omega
theorem back3 (b x : Int) (hx : 0 ≤ x ∧ x ≤ 4294967295) (hb : x % 128 + x / 4096 % 8 * 4096 = b) : encF 3 b (dL 3 x) (sL 3 x) (tL 3 x) (immL 3 x) = x ∧ okF 3 (dL 3 x) (sL 3 x) (tL 3 x) (immL 3 x) = true := by
  obtain ⟨h1, h2, h3⟩ := i_imm (x / 1048576 % 4096) (mod_bd (by decide))
  simp only [encF, dL, sL, tL, immL, hasD, hasS, hasT, okF, leastN, greatestN, lowN, Bool.and_eq_true, regL_iff, decide_eq_true_eq]
  simp only [h1]
  simp
  refine ⟨?_, ?_⟩
  · clear h1 h2 h3; omega
  · refine ⟨⟨⟨?_, ?_⟩, h2⟩, h3⟩ <;> omega
theorem back4 (b x : Int) (hx : 0 ≤ x ∧ x ≤ 4294967295) (hb : x % 128 + x / 4096 % 8 * 4096 = b) : encF 4 b (dL 4 x) (sL 4 x) (tL 4 x) (immL 4 x) = x ∧ okF 4 (dL 4 x) (sL 4 x) (tL 4 x) (immL 4 x) = true :=
  back3 b x hx hb
theorem back5 (b x : Int) (hx : 0 ≤ x ∧ x ≤ 4294967295) (hb : x % 128 + x / 4096 % 8 * 4096 = b) : encF 5 b (dL 5 x) (sL 5 x) (tL 5 x) (immL 5 x) = x ∧ okF 5 (dL 5 x) (sL 5 x) (tL 5 x) (immL 5 x) = true := by
  obtain ⟨h1, h2, h3⟩ := s_imm (x / 33554432 % 128) (x / 128 % 32) (mod_bd (by decide)) (mod_bd (by decide))
  simp only [encF, dL, sL, tL, immL, hasD, hasS, hasT, okF, leastN, greatestN, lowN, Bool.and_eq_true, regL_iff, decide_eq_true_eq]
  simp only [h1]
  simp
  refine ⟨?_, ?_⟩
  · clear h1 h2 h3; omega
  · refine ⟨⟨⟨?_, ?_⟩, h2⟩, h3⟩ <;> omega
theorem back6 (b x : Int) (hx : 0 ≤ x ∧ x ≤ 4294967295) (hb : x % 128 + x / 4096 % 8 * 4096 = b) : encF 6 b (dL 6 x) (sL 6 x) (tL 6 x) (immL 6 x) = x ∧ okF 6 (dL 6 x) (sL 6 x) (tL 6 x) (immL 6 x) = true := by
  obtain ⟨h1, h2, h3, h4⟩ := b_imm (x / 2147483648 % 2) (x / 128 % 2) (x / 33554432 % 64) (x / 256 % 16) (mod_bd (by decide)) (mod_bd (by decide)) (mod_bd (by decide)) (mod_bd (by decide))
  simp only [encF, dL, sL, tL, immL, hasD, hasS, hasT, okF, leastN, greatestN, lowN, Bool.and_eq_true, regL_iff, decide_eq_true_eq]
  simp only [h1]
  simp
  refine ⟨?_, ?_⟩
  · clear h1 h2 h3 h4; omega
  · refine ⟨⟨⟨⟨?_, ?_⟩, h2⟩, h3⟩, ?_⟩ <;> omega
theorem back7 (b x : Int) (hx : 0 ≤ x ∧ x ≤ 4294967295) (hb : x % 128 + x / 4096 % 8 * 4096 + x / 33554432 * 33554432 = b) : encF 7 b (dL 7 x) (sL 7 x) (tL 7 x) (immL 7 x) = x ∧ okF 7 (dL 7 x) (sL 7 x) (tL 7 x) (immL 7 x) = true := by
  simp only [encF, spreadL, dL, sL, tL, immL, hasD, hasS, hasT, okF, leastN, greatestN, lowN, Bool.and_eq_true, regL_iff, decide_eq_true_eq]
  simp
  refine ⟨?_, ?_⟩
  · rw [show x / 1048576 % 32 % 4294967296 * 1048576 % 4294967296 = x / 1048576 % 32 * 1048576 by omega]; omega
  · refine ⟨⟨⟨?_, ?_⟩, ?_⟩, ?_⟩ <;> omega
theorem back8 (b x : Int) (hx : 0 ≤ x ∧ x ≤ 4294967295) (hb : x % 128 + x / 4096 % 8 * 4096 + x / 33554432 * 33554432 = b) : encF 8 b (dL 8 x) (sL 8 x) (tL 8 x) (immL 8 x) = x ∧ okF 8 (dL 8 x) (sL 8 x) (tL 8 x) (immL 8 x) = true := by
  simp only [encF, spreadL, dL, sL, tL, immL, hasD, hasS, hasT, okF, leastN, greatestN, lowN, Bool.and_eq_true, regL_iff, decide_eq_true_eq]
  simp
  refine ⟨?_, ?_⟩ <;> omega
theorem back9 (x : Int) (hx : 0 ≤ x ∧ x ≤ 4294967295) : encF 9 x (dL 9 x) (sL 9 x) (tL 9 x) (immL 9 x) = x ∧ okF 9 (dL 9 x) (sL 9 x) (tL 9 x) (immL 9 x) = true := by
  simp [encF, spreadL, dL, sL, tL, immL, hasD, hasS, hasT, okF, leastN, greatestN, lowN, Bool.and_eq_true, regL_iff, decide_eq_true_eq]
/-- What is read is a word, and is written as it was. -/
theorem read_back {op : Nat} (h1 : 1 ≤ op) (h2 : op ≤ 47) (x : Int) (hx : 0 ≤ x ∧ x ≤ 4294967295) (h : matchL op x = true) :
    encF (formN op) (bitsN op) (dL (formN op) x) (sL (formN op) x) (tL (formN op) x) (immL (formN op) x) = x ∧ okF (formN op) (dL (formN op) x) (sL (formN op) x) (tL (formN op) x) (immL (formN op) x) = true := by
  unfold matchL at h
  rw [decide_eq_true_eq] at h
  rcases opCases h1 h2 with hf | hf | hf | hf | hf | hf | hf | hf | hf <;> rw [hf] at h ⊢
  · exact back1 _ x hx h
  · exact back2 _ x hx h
  · exact back3 _ x hx h
  · exact back4 _ x hx h
  · exact back5 _ x hx h
  · exact back6 _ x hx h
  · exact back7 _ x hx h
  · exact back8 _ x hx h
  · have h' : x = bitsN op := h
    rw [← h']; exact back9 x hx

/-! ### What is written is read as it was -/

theorem fwd1 (b d s t i : Int) (hb : 0 ≤ b ∧ b < 128) (h : okF 1 d s t i = true) : (0 ≤ encF 1 b d s t i ∧ encF 1 b d s t i ≤ 4294967295) ∧ maskL 1 (encF 1 b d s t i) = b
    ∧ dL 1 (encF 1 b d s t i) = d ∧ sL 1 (encF 1 b d s t i) = s ∧ tL 1 (encF 1 b d s t i) = t ∧ immL 1 (encF 1 b d s t i) = i := by
  simp only [okF, leastN, greatestN, lowN, Bool.and_eq_true, regL_iff, decide_eq_true_eq] at h
  simp [hasD, hasS, hasT] at h
  obtain ⟨⟨⟨⟨⟨hd, hs⟩, ht⟩, hi1⟩, hi2⟩, hi3⟩ := h
  have e0 : s = 0 := hs.2.2
  have e1 : t = 0 := ht.2.2
  subst e0 e1
  simp only [encF, spreadL, maskL, dL, sL, tL, immL, hasD, hasS, hasT]
  simp
  unfold wrap32
  refine ⟨⟨?_, ?_⟩, ?_, ?_, ?_⟩ <;> omega
theorem j_split (i : Int) (h1 : -1048576 ≤ i) (h2 : i ≤ 1048574) (h3 : i % 2 = 0) :
    ∃ e a p c : Int, (0 ≤ e ∧ e < 2) ∧ (0 ≤ a ∧ a < 256) ∧ (0 ≤ p ∧ p < 2) ∧ (0 ≤ c ∧ c < 1024) ∧ sx 20 (e * 1048576 + a * 4096 + p * 2048 + c * 2) = i := by
  by_cases c : 0 ≤ i
  · refine ⟨0, i / 4096, i / 2048 % 2, i / 2 % 1024, by omega, by omega, by omega, by omega, ?_⟩
    unfold sx; rw [if_pos (by omega)]; omega
  · refine ⟨1, (i + 1048576) / 4096, (i + 1048576) / 2048 % 2, (i + 1048576) / 2 % 1024, by omega, by omega, by omega, by omega, ?_⟩
    unfold sx; rw [if_neg (by omega)]; omega
theorem fwd2 (b d s t i : Int) (hb : 0 ≤ b ∧ b < 128) (h : okF 2 d s t i = true) : (0 ≤ encF 2 b d s t i ∧ encF 2 b d s t i ≤ 4294967295) ∧ maskL 2 (encF 2 b d s t i) = b
    ∧ dL 2 (encF 2 b d s t i) = d ∧ sL 2 (encF 2 b d s t i) = s ∧ tL 2 (encF 2 b d s t i) = t ∧ immL 2 (encF 2 b d s t i) = i := by
  simp only [okF, leastN, greatestN, lowN, Bool.and_eq_true, regL_iff, decide_eq_true_eq] at h
  simp [hasD, hasS, hasT] at h
  obtain ⟨⟨⟨⟨⟨hd, hs⟩, ht⟩, hi1⟩, hi2⟩, hi3⟩ := h
  have e0 : s = 0 := hs.2.2
  have e1 : t = 0 := ht.2.2
  obtain ⟨e, a, p, c, he, ha, hp, hc, rfl⟩ := j_split i hi1 hi2 (by omega)
  obtain ⟨j1, -, -, -⟩ := j_imm e a p c he ha hp hc
  subst e0 e1
  have hx : encF 2 b d 0 0 (sx 20 (e * 1048576 + a * 4096 + p * 2048 + c * 2)) = b + d * 128 + a * 4096 + p * 1048576 + c * 2097152 + e * 2147483648 := by
    unfold encF; rw [j1]; omega
  clear hi1 hi2 hi3 j1 hs ht
  rw [hx]
  refine ⟨⟨by omega, by omega⟩, ?_, ?_, rfl, rfl, ?_⟩
  · simp only [maskL]; omega
  · simp only [dL, hasD]; simp; omega
  · simp only [immL]
    rw [show (b + d * 128 + a * 4096 + p * 1048576 + c * 2097152 + e * 2147483648) / 2147483648 % 2 = e by omega,
      show (b + d * 128 + a * 4096 + p * 1048576 + c * 2097152 + e * 2147483648) / 4096 % 256 = a by omega,
      show (b + d * 128 + a * 4096 + p * 1048576 + c * 2097152 + e * 2147483648) / 1048576 % 2 = p by omega,
      show (b + d * 128 + a * 4096 + p * 1048576 + c * 2097152 + e * 2147483648) / 2097152 % 1024 = c by omega]
theorem i_split (i : Int) (h1 : -2048 ≤ i) (h2 : i ≤ 2047) : ∃ v : Int, (0 ≤ v ∧ v < 4096) ∧ sx 11 v = i := by
  by_cases c : 0 ≤ i
  · exact ⟨i, by omega, by unfold sx; rw [if_pos (by omega)]⟩
  · exact ⟨i + 4096, by omega, by unfold sx; rw [if_neg (by omega)]; omega⟩
theorem fwd3 (b d s t i : Int) (hb : b = b % 128 + b / 4096 % 8 * 4096) (hb2 : 0 ≤ b ∧ b < 32768) (h : okF 3 d s t i = true) : (0 ≤ encF 3 b d s t i ∧ encF 3 b d s t i ≤ 4294967295) ∧ maskL 3 (encF 3 b d s t i) = b
    ∧ dL 3 (encF 3 b d s t i) = d ∧ sL 3 (encF 3 b d s t i) = s ∧ tL 3 (encF 3 b d s t i) = t ∧ immL 3 (encF 3 b d s t i) = i := by
  simp only [okF, leastN, greatestN, lowN, Bool.and_eq_true, regL_iff, decide_eq_true_eq] at h
  simp [hasD, hasS, hasT] at h
  obtain ⟨⟨⟨⟨hd, hs⟩, ht⟩, hi1⟩, hi2⟩ := h
  have e1 : t = 0 := ht.2.2
  obtain ⟨v, hv, rfl⟩ := i_split i hi1 hi2
  obtain ⟨j1, -, -⟩ := i_imm v hv
  subst e1
  have hx : encF 3 b d s 0 (sx 11 v) = b + d * 128 + s * 32768 + v * 1048576 := by
    unfold encF; rw [j1]; omega
  clear hi1 hi2 j1 ht
  rw [hx]
  refine ⟨⟨by omega, by omega⟩, ?_, ?_, ?_, rfl, ?_⟩
  · simp only [maskL]; omega
  · simp only [dL, hasD]; simp; omega
  · simp only [sL, hasS]; simp; omega
  · simp only [immL]
    rw [show (b + d * 128 + s * 32768 + v * 1048576) / 1048576 % 4096 = v by omega]
theorem s_split (i : Int) (h1 : -2048 ≤ i) (h2 : i ≤ 2047) : ∃ h l : Int, (0 ≤ h ∧ h < 128) ∧ (0 ≤ l ∧ l < 32) ∧ sx 11 (h * 32 + l) = i := by
  by_cases c : 0 ≤ i
  · exact ⟨i / 32, i % 32, by omega, by omega, by unfold sx; rw [if_pos (by omega)]; omega⟩
  · exact ⟨(i + 4096) / 32, i % 32, by omega, by omega, by unfold sx; rw [if_neg (by omega)]; omega⟩
theorem fwd5 (b d s t i : Int) (hb : b = b % 128 + b / 4096 % 8 * 4096) (hb2 : 0 ≤ b ∧ b < 32768) (h : okF 5 d s t i = true) : (0 ≤ encF 5 b d s t i ∧ encF 5 b d s t i ≤ 4294967295) ∧ maskL 5 (encF 5 b d s t i) = b
    ∧ dL 5 (encF 5 b d s t i) = d ∧ sL 5 (encF 5 b d s t i) = s ∧ tL 5 (encF 5 b d s t i) = t ∧ immL 5 (encF 5 b d s t i) = i := by
  simp only [okF, leastN, greatestN, lowN, Bool.and_eq_true, regL_iff, decide_eq_true_eq] at h
  simp [hasD, hasS, hasT] at h
  obtain ⟨⟨⟨⟨hd, hs⟩, ht⟩, hi1⟩, hi2⟩ := h
  have e1 : d = 0 := hd.2.2
  obtain ⟨h, l, hh, hl, rfl⟩ := s_split i hi1 hi2
  obtain ⟨j1, -, -⟩ := s_imm h l hh hl
  subst e1
  have hx : encF 5 b 0 s t (sx 11 (h * 32 + l)) = b + l * 128 + s * 32768 + t * 1048576 + h * 33554432 := by
    unfold encF; rw [j1]; omega
  clear hi1 hi2 j1 hd
  rw [hx]
  refine ⟨⟨by omega, by omega⟩, ?_, rfl, ?_, ?_, ?_⟩
  · simp only [maskL]; omega
  · simp only [sL, hasS]; simp; omega
  · simp only [tL, hasT]; simp; omega
  · simp only [immL]
    rw [show (b + l * 128 + s * 32768 + t * 1048576 + h * 33554432) / 33554432 % 128 = h by omega,
      show (b + l * 128 + s * 32768 + t * 1048576 + h * 33554432) / 128 % 32 = l by omega]
theorem b_split (i : Int) (h1 : -4096 ≤ i) (h2 : i ≤ 4094) (h3 : i % 2 = 0) :
    ∃ e p h l : Int, (0 ≤ e ∧ e < 2) ∧ (0 ≤ p ∧ p < 2) ∧ (0 ≤ h ∧ h < 64) ∧ (0 ≤ l ∧ l < 16) ∧ sx 12 (e * 4096 + p * 2048 + h * 32 + l * 2) = i := by
  by_cases c : 0 ≤ i
  · refine ⟨0, i / 2048 % 2, i / 32 % 64, i / 2 % 16, by omega, by omega, by omega, by omega, ?_⟩
    unfold sx; rw [if_pos (by omega)]; omega
  · refine ⟨1, (i + 4096) / 2048 % 2, (i + 4096) / 32 % 64, (i + 4096) / 2 % 16, by omega, by omega, by omega, by omega, ?_⟩
    unfold sx; rw [if_neg (by omega)]; omega
theorem fwd6 (b d s t i : Int) (hb : b = b % 128 + b / 4096 % 8 * 4096) (hb2 : 0 ≤ b ∧ b < 32768) (h : okF 6 d s t i = true) : (0 ≤ encF 6 b d s t i ∧ encF 6 b d s t i ≤ 4294967295) ∧ maskL 6 (encF 6 b d s t i) = b
    ∧ dL 6 (encF 6 b d s t i) = d ∧ sL 6 (encF 6 b d s t i) = s ∧ tL 6 (encF 6 b d s t i) = t ∧ immL 6 (encF 6 b d s t i) = i := by
  simp only [okF, leastN, greatestN, lowN, Bool.and_eq_true, regL_iff, decide_eq_true_eq] at h
  simp [hasD, hasS, hasT] at h
  obtain ⟨⟨⟨⟨⟨hd, hs⟩, ht⟩, hi1⟩, hi2⟩, hi3⟩ := h
  have e1 : d = 0 := hd.2.2
  obtain ⟨e, p, h, l, he, hp, hh, hl, rfl⟩ := b_split i hi1 hi2 (by omega)
  obtain ⟨j1, -, -, -⟩ := b_imm e p h l he hp hh hl
  subst e1
  have hx : encF 6 b 0 s t (sx 12 (e * 4096 + p * 2048 + h * 32 + l * 2)) = b + p * 128 + l * 256 + s * 32768 + t * 1048576 + h * 33554432 + e * 2147483648 := by
    unfold encF; rw [j1]; omega
  clear hi1 hi2 hi3 j1 hd
  rw [hx]
  refine ⟨⟨by omega, by omega⟩, ?_, rfl, ?_, ?_, ?_⟩
  · simp only [maskL]; omega
  · simp only [sL, hasS]; simp; omega
  · simp only [tL, hasT]; simp; omega
  · simp only [immL]
    rw [show (b + p * 128 + l * 256 + s * 32768 + t * 1048576 + h * 33554432 + e * 2147483648) / 2147483648 % 2 = e by omega,
      show (b + p * 128 + l * 256 + s * 32768 + t * 1048576 + h * 33554432 + e * 2147483648) / 128 % 2 = p by omega,
      show (b + p * 128 + l * 256 + s * 32768 + t * 1048576 + h * 33554432 + e * 2147483648) / 33554432 % 64 = h by omega,
      show (b + p * 128 + l * 256 + s * 32768 + t * 1048576 + h * 33554432 + e * 2147483648) / 256 % 16 = l by omega]
theorem fwd7 (b d s t i : Int) (hb : b = b % 128 + b / 4096 % 8 * 4096 + b / 33554432 * 33554432) (hb2 : 0 ≤ b ∧ b < 4294967296) (h : okF 7 d s t i = true) : (0 ≤ encF 7 b d s t i ∧ encF 7 b d s t i ≤ 4294967295) ∧ maskL 7 (encF 7 b d s t i) = b
    ∧ dL 7 (encF 7 b d s t i) = d ∧ sL 7 (encF 7 b d s t i) = s ∧ tL 7 (encF 7 b d s t i) = t ∧ immL 7 (encF 7 b d s t i) = i := by
  simp only [okF, leastN, greatestN, lowN, Bool.and_eq_true, regL_iff, decide_eq_true_eq] at h
  simp [hasD, hasS, hasT] at h
  obtain ⟨⟨⟨⟨hd, hs⟩, ht⟩, hi1⟩, hi2⟩ := h
  have e1 : t = 0 := ht.2.2
  subst e1
  have hx : encF 7 b d s 0 i = b + d * 128 + s * 32768 + i * 1048576 := by
    unfold encF; simp only [spreadL]; omega
  rw [hx]
  refine ⟨⟨by omega, by omega⟩, ?_, ?_, ?_, rfl, ?_⟩
  · simp only [maskL]; omega
  · simp only [dL, hasD]; simp; omega
  · simp only [sL, hasS]; simp; omega
  · simp only [immL]; omega
theorem fwd8 (b d s t i : Int) (hb : b = b % 128 + b / 4096 % 8 * 4096 + b / 33554432 * 33554432) (hb2 : 0 ≤ b ∧ b < 4294967296) (h : okF 8 d s t i = true) : (0 ≤ encF 8 b d s t i ∧ encF 8 b d s t i ≤ 4294967295) ∧ maskL 8 (encF 8 b d s t i) = b
    ∧ dL 8 (encF 8 b d s t i) = d ∧ sL 8 (encF 8 b d s t i) = s ∧ tL 8 (encF 8 b d s t i) = t ∧ immL 8 (encF 8 b d s t i) = i := by
  simp only [okF, leastN, greatestN, lowN, Bool.and_eq_true, regL_iff, decide_eq_true_eq] at h
  simp [hasD, hasS, hasT] at h
  obtain ⟨⟨⟨⟨hd, hs⟩, ht⟩, hi1⟩, hi2⟩ := h
  have e1 : i = 0 := by omega
  subst e1
  have hx : encF 8 b d s t 0 = b + d * 128 + s * 32768 + t * 1048576 := by
    unfold encF; simp only [spreadL]; omega
  rw [hx]
  refine ⟨⟨by omega, by omega⟩, ?_, ?_, ?_, ?_, rfl⟩
  · simp only [maskL]; omega
  · simp only [dL, hasD]; simp; omega
  · simp only [sL, hasS]; simp; omega
  · simp only [tL, hasT]; simp; omega
theorem fwd9 (b d s t i : Int) (hb2 : 0 ≤ b ∧ b < 4294967296) (h : okF 9 d s t i = true) : (0 ≤ encF 9 b d s t i ∧ encF 9 b d s t i ≤ 4294967295) ∧ maskL 9 (encF 9 b d s t i) = b
    ∧ dL 9 (encF 9 b d s t i) = d ∧ sL 9 (encF 9 b d s t i) = s ∧ tL 9 (encF 9 b d s t i) = t ∧ immL 9 (encF 9 b d s t i) = i := by
  simp only [okF, leastN, greatestN, lowN, Bool.and_eq_true, regL_iff, decide_eq_true_eq] at h
  simp [hasD, hasS, hasT] at h
  obtain ⟨⟨⟨⟨hd, hs⟩, ht⟩, hi1⟩, hi2⟩ := h
  have e1 : i = 0 := by omega
  have e2 : d = 0 := hd.2.2
  have e3 : s = 0 := hs.2.2
  have e4 : t = 0 := ht.2.2
  subst e1 e2 e3 e4
  have hx : encF 9 b 0 0 0 0 = b := by
    unfold encF; simp only [spreadL]; omega
  rw [hx]
  exact ⟨⟨by omega, by omega⟩, rfl, rfl, rfl, rfl, rfl⟩
/-- What is written is of the kind, and is read as it was. -/
theorem write_back {op : Nat} (h1 : 1 ≤ op) (h2 : op ≤ 47) {d s t i : Int} (h : okF (formN op) d s t i = true) :
    (0 ≤ encF (formN op) (bitsN op) d s t i ∧ encF (formN op) (bitsN op) d s t i ≤ 4294967295) ∧ matchL op (encF (formN op) (bitsN op) d s t i) = true
    ∧ dL (formN op) (encF (formN op) (bitsN op) d s t i) = d ∧ sL (formN op) (encF (formN op) (bitsN op) d s t i) = s ∧ tL (formN op) (encF (formN op) (bitsN op) d s t i) = t
    ∧ immL (formN op) (encF (formN op) (bitsN op) d s t i) = i := by
  unfold matchL
  rw [decide_eq_true_eq]
  have hs := shape_ok h1 h2
  rcases opCases h1 h2 with hf | hf | hf | hf | hf | hf | hf | hf | hf <;> rw [hf] at h hs ⊢ <;> simp [shapeOk] at hs
  · exact fwd1 _ _ _ _ _ (by omega) h
  · exact fwd2 _ _ _ _ _ (by omega) h
  · exact fwd3 _ _ _ _ _ (by omega) (by omega) h
  · exact fwd3 _ _ _ _ _ (by omega) (by omega) h
  · exact fwd5 _ _ _ _ _ (by omega) (by omega) h
  · exact fwd6 _ _ _ _ _ (by omega) (by omega) h
  · exact fwd7 _ _ _ _ _ (by omega) (by omega) h
  · exact fwd8 _ _ _ _ _ (by omega) (by omega) h
  · exact fwd9 _ _ _ _ _ (by omega) h

/-! ### Each word is of one kind -/

def f3of (f : Nat) : Bool := f == 3 || f == 4 || f == 5 || f == 6 || f == 7 || f == 8 || f == 9
def f7of (f : Nat) : Bool := f == 7 || f == 8 || f == 9
/-- Two kinds differ where both have their bits. -/
def unlike (a b : Nat) : Bool :=
  decide (bitsN a % 128 ≠ bitsN b % 128) || f3of (formN a) && f3of (formN b) && decide (bitsN a / 4096 % 8 ≠ bitsN b / 4096 % 8)
  || f7of (formN a) && f7of (formN b) && decide (bitsN a / 33554432 ≠ bitsN b / 33554432) || decide (formN a = 9) && decide (formN b = 9) && decide (bitsN a ≠ bitsN b)
theorem unlike_all : ∀ a b : Fin 48, 1 ≤ a.val → 1 ≤ b.val → a ≠ b → unlike a b = true := by decide +kernel
theorem mask_parts (f : Nat) (h1 : 1 ≤ f) (h9 : f ≤ 9) (x : Int) (b : Nat) (hx : 0 ≤ x ∧ x ≤ 4294967295) (h : maskL f x = b) :
    x % 128 = (b % 128 : Nat) ∧ (f3of f = true → x / 4096 % 8 = (b / 4096 % 8 : Nat)) ∧ (f7of f = true → x / 33554432 = (b / 33554432 : Nat)) ∧ (f = 9 → x = b) := by
  have hf : f = 1 ∨ f = 2 ∨ f = 3 ∨ f = 4 ∨ f = 5 ∨ f = 6 ∨ f = 7 ∨ f = 8 ∨ f = 9 := by omega
  rcases hf with rfl | rfl | rfl | rfl | rfl | rfl | rfl | rfl | rfl <;> simp only [maskL] at h <;> simp [f3of, f7of]
  · omega
  · omega
  all_goals (first | (refine ⟨by omega, ?_, ?_, ?_⟩ <;> omega) | (refine ⟨by omega, ?_, ?_⟩ <;> omega) | (refine ⟨by omega, ?_⟩ <;> omega) | omega)
theorem match_one {a b : Nat} (ha : 1 ≤ a) (ha2 : a ≤ 47) (hb : 1 ≤ b) (hb2 : b ≤ 47) {x : Int} (hx : 0 ≤ x ∧ x ≤ 4294967295) (h : matchL a x = true) (h' : matchL b x = true) : a = b := by
  refine Classical.byContradiction fun hn => ?_
  have hu := unlike_all ⟨a, by omega⟩ ⟨b, by omega⟩ ha hb (fun e => hn (by simpa using e))
  unfold matchL at h h'
  rw [decide_eq_true_eq] at h h'
  have f9 : ∀ {k : Nat}, 1 ≤ k → k ≤ 47 → 1 ≤ formN k ∧ formN k ≤ 9 := fun k1 k2 => by have := opCases k1 k2; omega
  obtain ⟨p1, p2, p3, p4⟩ := mask_parts _ (f9 ha ha2).1 (f9 ha ha2).2 x _ hx h
  obtain ⟨q1, q2, q3, q4⟩ := mask_parts _ (f9 hb hb2).1 (f9 hb hb2).2 x _ hx h'
  unfold unlike at hu
  simp only [Bool.or_eq_true, Bool.and_eq_true, decide_eq_true_eq] at hu
  rcases hu with ((hu | ⟨⟨u1, u2⟩, u3⟩) | ⟨⟨u1, u2⟩, u3⟩) | ⟨⟨u1, u2⟩, u3⟩
  · omega
  · have := p2 u1; have := q2 u2; omega
  · have := p3 u1; have := q3 u2; omega
  · have := p4 u1; have := q4 u2; omega
end Go.Proofs.YtbalnlodkiejcaaDoor
