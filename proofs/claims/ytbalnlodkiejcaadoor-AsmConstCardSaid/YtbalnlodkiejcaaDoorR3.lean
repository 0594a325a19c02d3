/-
  FIELDS OF WORDS PUT TOGETHER; no program in sight.
-/
import Derived.Test.YtbalnlodkiejcaaDoorR2
namespace Go.Proofs.YtbalnlodkiejcaaDoor
open Go.RowKit
set_option linter.unusedVariables false
set_option linter.unusedSimpArgs false

theorem in_zero (m : Nat) (h : m < 4294967296) : In m 0 := ⟨0, rfl, by simp, h⟩
/-- A field of n bits at the place k, the mask and the factor written out. -/
theorem fld {m : Nat} {p : Int} (k n : Nat) (v : Int) (h : 0 ≤ v ∧ v < 2 ^ n) (hk : n + k ≤ 32) (hm : (2 ^ n - 1) * 2 ^ k = m) (hp : (2 : Int) ^ k = p) : In m (v * p) := by
  subst hm hp
  exact in_field v k n h hk
theorem fld0 {m : Nat} (n : Nat) (v : Int) (h : 0 ≤ v ∧ v < 2 ^ n) (hk : n ≤ 32) (hm : 2 ^ n - 1 = m) : In m v := by
  have := in_field v 0 n h (by omega)
  simpa [hm] using this
def mD (f : Nat) : Nat := if hasD f then 0xf80 else 0
def mS (f : Nat) : Nat := if hasS f then 0xf8000 else 0
def mT (f : Nat) : Nat := if hasT f then 0x1f00000 else 0
theorem in_reg {h : Bool} {r : Int} (hr : regL r h = true) (k : Nat) (hk : k ≤ 20) {m : Nat} {p : Int} (hm : (2 ^ 5 - 1) * 2 ^ k = m) (hp : (2 : Int) ^ k = p) : In (if h then m else 0) (r * p) := by
  obtain ⟨h0, h1, h2⟩ := (regL_iff r h).1 hr
  cases h with
  | true => exact fld k 5 r ⟨h0, h1⟩ (by omega) hm hp
  | false => rw [h2 rfl, Int.zero_mul]; exact in_zero _ (by simp)
def spM (f : Nat) : Nat := [0, 0xfffff000, 0xfffff000, 0xfff00000, 0xfff00000, 0xfe000f80, 0xfe000f80, 0x1f00000, 0, 0].getD f 0
theorem spJ (u : Int) : bits .or .u32 (bits .or .u32 (bits .or .u32 (u / 1048576 % 2 * 2147483648) (u / 2 % 1024 * 2097152)) (u / 2048 % 2 * 1048576)) (u / 4096 % 256 * 4096) = spreadL 2 u ∧ In 0xfffff000 (spreadL 2 u) := by
  have a1 : In 0x80000000 (u / 1048576 % 2 * 2147483648) := fld 31 1 _ (by simp; omega) (by decide) (by decide) (by decide)
  have a2 : In 0x7fe00000 (u / 2 % 1024 * 2097152) := fld 21 10 _ (by simp; omega) (by decide) (by decide) (by decide)
  have a3 : In 0x100000 (u / 2048 % 2 * 1048576) := fld 20 1 _ (by simp; omega) (by decide) (by decide) (by decide)
  have a4 : In 0xff000 (u / 4096 % 256 * 4096) := fld 12 8 _ (by simp; omega) (by decide) (by decide) (by decide)
  obtain ⟨e1, m1⟩ := or_in a1 a2 (by decide)
  obtain ⟨e2, m2⟩ := or_in m1 a3 (by decide)
  obtain ⟨e3, m3⟩ := or_in m2 a4 (by decide)
  rw [e1, e2, e3]
  exact ⟨rfl, m3⟩
theorem spB (u : Int) : bits .or .u32 (bits .or .u32 (bits .or .u32 (u / 4096 % 2 * 2147483648) (u / 32 % 64 * 33554432)) (u / 2 % 16 * 256)) (u / 2048 % 2 * 128) = spreadL 6 u ∧ In 0xfe000f80 (spreadL 6 u) := by
  have a1 : In 0x80000000 (u / 4096 % 2 * 2147483648) := fld 31 1 _ (by simp; omega) (by decide) (by decide) (by decide)
  have a2 : In 0x7e000000 (u / 32 % 64 * 33554432) := fld 25 6 _ (by simp; omega) (by decide) (by decide) (by decide)
  have a3 : In 0xf00 (u / 2 % 16 * 256) := fld 8 4 _ (by simp; omega) (by decide) (by decide) (by decide)
  have a4 : In 0x80 (u / 2048 % 2 * 128) := fld 7 1 _ (by simp; omega) (by decide) (by decide) (by decide)
  obtain ⟨e1, m1⟩ := or_in a1 a2 (by decide)
  obtain ⟨e2, m2⟩ := or_in m1 a3 (by decide)
  obtain ⟨e3, m3⟩ := or_in m2 a4 (by decide)
  rw [e1, e2, e3]
  exact ⟨rfl, m3⟩
theorem spS (u : Int) : bits .or .u32 (u / 32 % 128 * 33554432) (u % 32 * 128) = spreadL 5 u ∧ In 0xfe000f80 (spreadL 5 u) := by
  have a1 : In 0xfe000000 (u / 32 % 128 * 33554432) := fld 25 7 _ (by simp; omega) (by decide) (by decide) (by decide)
  have a2 : In 0xf80 (u % 32 * 128) := fld 7 5 _ (by simp; omega) (by decide) (by decide) (by decide)
  obtain ⟨e1, m1⟩ := or_in a1 a2 (by decide)
  rw [e1]
  exact ⟨rfl, m1⟩
theorem in_spread (f : Nat) (h1 : 1 ≤ f) (h9 : f ≤ 9) (i : Int) (hi : leastN f ≤ i) (hi2 : i ≤ greatestN f) (hi3 : i % (lowN f + 1) = 0) : In (spM f) (spreadL f (i % 4294967296)) := by
  have hc : f = 1 ∨ f = 2 ∨ f = 3 ∨ f = 4 ∨ f = 5 ∨ f = 6 ∨ f = 7 ∨ f = 8 ∨ f = 9 := by omega
  have up : ∀ u : Int, In 0xfff00000 (u * 1048576 % 4294967296) := fun u => by
    rw [show u * 1048576 % 4294967296 = u % 4096 * 1048576 by omega]
    exact fld 20 12 _ (by simp; omega) (by decide) (by decide) (by decide)
  rcases hc with rfl | rfl | rfl | rfl | rfl | rfl | rfl | rfl | rfl
  · simp only [lowN] at hi3
    simp at hi3
    have e : spreadL 1 (i % 4294967296) = i % 4294967296 / 4096 * 4096 := by simp only [spreadL]; omega
    rw [e]
    exact fld 12 20 _ (by simp; omega) (by decide) (by decide) (by decide)
  · exact (spJ _).2
  · exact up _
  · exact up _
  · exact (spS _).2
  · exact (spB _).2
  · simp only [leastN, greatestN] at hi hi2
    simp at hi hi2
    have e : spreadL 7 (i % 4294967296) = i * 1048576 := by simp only [spreadL]; omega
    rw [e]
    exact fld 20 5 _ (by simp; omega) (by decide) (by decide) (by decide)
  all_goals
    simp only [leastN, greatestN] at hi hi2
    simp at hi hi2
    have e : i = 0 := by omega
    subst e
    exact in_zero _ (by decide)
def masksN (f : Nat) : Nat := [0, 127, 127, 28799, 28799, 28799, 28799, 4261441663, 4261441663, 4294967295].getD f 0
/-- The bits, the registers and the immediate, put together. -/
theorem enc_or (f : Nat) (h1 : 1 ≤ f) (h9 : f ≤ 9) (b d s t i : Int) (hb : In (masksN f) b) (h : okF f d s t i = true) :
    bits .or .u32 (bits .or .u32 b (bits .or .u32 (bits .or .u32 (d * 128) (s * 32768)) (t * 1048576))) (spreadL f (i % 4294967296)) = encF f b d s t i := by
  simp only [okF, Bool.and_eq_true, decide_eq_true_eq] at h
  obtain ⟨⟨⟨⟨⟨hd, hs⟩, ht⟩, hi1⟩, hi2⟩, hi3⟩ := h
  have a1 : In (mD f) (d * 128) := in_reg hd 7 (by decide) (by decide) (by decide)
  have a2 : In (mS f) (s * 32768) := in_reg hs 15 (by decide) (by decide) (by decide)
  have a3 : In (mT f) (t * 1048576) := in_reg ht 20 (by decide) (by decide) (by decide)
  have a4 := in_spread f h1 h9 i hi1 hi2 hi3
  have dis : ∀ k : Fin 10, mD k &&& mS k = 0 ∧ (mD k ||| mS k) &&& mT k = 0 ∧ masksN k &&& (mD k ||| mS k ||| mT k) = 0 ∧ (masksN k ||| (mD k ||| mS k ||| mT k)) &&& spM k = 0 := by decide +kernel
  obtain ⟨d1, d2, d3, d4⟩ := dis ⟨f, by omega⟩
  obtain ⟨e1, m1⟩ := or_in a1 a2 d1
  obtain ⟨e2, m2⟩ := or_in m1 a3 d2
  obtain ⟨e3, m3⟩ := or_in hb m2 d3
  obtain ⟨e4, m4⟩ := or_in m3 a4 d4
  rw [e1, e2, e3, e4]
  unfold encF
  omega
theorem in_bits {op : Nat} (h1 : 1 ≤ op) (h2 : op ≤ 47) : In (masksN (formN op)) (bitsN op) := by
  have h : ∀ k : Fin 48, bitsN k &&& masksN (formN k) = bitsN k ∧ masksN (formN k) < 4294967296 := by decide +kernel
  exact ⟨bitsN op, rfl, (h ⟨op, by omega⟩).1, (h ⟨op, by omega⟩).2⟩
end Go.Proofs.YtbalnlodkiejcaaDoor
