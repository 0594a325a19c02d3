/-
  THE DOCUMENT'S OWN WAY OF PUTTING A WORD TOGETHER; no program in sight.
-/
import Derived.Test.YtbalnlodkiejcaaDoorR3
namespace Go.Proofs.YtbalnlodkiejcaaDoor
open Go.RowKit
set_option linter.unusedVariables false
set_option linter.unusedSimpArgs false

theorem okF_regs {f : Nat} {d s t i : Int} (h : okF f d s t i = true) : regL d (hasD f) = true ∧ regL s (hasS f) = true ∧ regL t (hasT f) = true ∧ leastN f ≤ i ∧ i ≤ greatestN f ∧ i % (lowN f + 1) = 0 := by
  simp only [okF, Bool.and_eq_true, decide_eq_true_eq] at h
  obtain ⟨⟨⟨⟨⟨hd, hs⟩, ht⟩, hi1⟩, hi2⟩, hi3⟩ := h
  exact ⟨hd, hs, ht, hi1, hi2, hi3⟩
theorem reg_true {r : Int} (h : regL r true = true) : 0 ≤ r ∧ r < 32 := by have := (regL_iff r true).1 h; omega
theorem reg_false {r : Int} (h : regL r false = true) : r = 0 := by have := (regL_iff r false).1 h; exact this.2.2 rfl
theorem in7 (b : Int) : In 127 (b % 128) := fld0 7 _ (by simp; omega) (by decide) (by decide)
theorem in3 (b : Int) : In 28672 (b / 4096 % 8 * 4096) := fld 12 3 _ (by simp; omega) (by decide) (by decide) (by decide)
theorem in25 (b : Int) (h : 0 ≤ b ∧ b ≤ 4294967295) : In 4261412864 (b / 33554432 * 33554432) := fld 25 7 _ (by simp; omega) (by decide) (by decide) (by decide)
theorem inD (d : Int) (h : 0 ≤ d ∧ d < 32) : In 3968 (d * 128) := fld 7 5 _ (by simp; omega) (by decide) (by decide) (by decide)
theorem inS (d : Int) (h : 0 ≤ d ∧ d < 32) : In 1015808 (d * 32768) := fld 15 5 _ (by simp; omega) (by decide) (by decide) (by decide)
theorem inT (d : Int) (h : 0 ≤ d ∧ d < 32) : In 32505856 (d * 1048576) := fld 20 5 _ (by simp; omega) (by decide) (by decide) (by decide)
theorem inI (u : Int) : In 4293918720 (u * 1048576 % 4294967296) := by
  rw [show u * 1048576 % 4294967296 = u % 4096 * 1048576 by omega]
  exact fld 20 12 _ (by simp; omega) (by decide) (by decide) (by decide)

theorem rE1 (b d s t i : Int) (hb : 0 ≤ b ∧ b < 128) (h : okF 1 d s t i = true) :
    bits .or .u32 (bits .or .u32 (b % 128) (d * 128)) (i % 4294967296) = encF 1 b d s t i := by
  obtain ⟨hd, hs, ht, h1, h2, h3⟩ := okF_regs h
  have hd := reg_true hd
  have hs := reg_false hs
  have ht := reg_false ht
  have a := in_spread 1 (by decide) (by decide) i h1 h2 h3
  obtain ⟨e1, m1⟩ := or_in (in7 b) (inD d hd) (by decide)
  obtain ⟨e2, m2⟩ := or_in m1 a (by decide)
  have e2' : bits .or .u32 (b % 128 + d * 128) (i % 4294967296) = b % 128 + d * 128 + spreadL 1 (i % 4294967296) := e2
  rw [e1, e2', hs, ht]
  unfold encF
  omega
theorem rE2 (b d s t i : Int) (hb : 0 ≤ b ∧ b < 128) (h : okF 2 d s t i = true) (u : Int) (hu : u = i % 4294967296) :
    bits .or .u32 (bits .or .u32 (bits .or .u32 (bits .or .u32 (bits .or .u32 (b % 128) (d * 128)) (u / 4096 % 256 * 4096)) (u / 2048 % 2 * 1048576)) (u / 2 % 1024 * 2097152)) (u / 1048576 % 2 * 2147483648) = encF 2 b d s t i := by
  obtain ⟨hd, hs, ht, h1, h2, h3⟩ := okF_regs h
  have hd := reg_true hd
  have hs := reg_false hs
  have ht := reg_false ht
  have a1 : In 0x80000000 (u / 1048576 % 2 * 2147483648) := fld 31 1 _ (by simp; omega) (by decide) (by decide) (by decide)
  have a2 : In 0x7fe00000 (u / 2 % 1024 * 2097152) := fld 21 10 _ (by simp; omega) (by decide) (by decide) (by decide)
  have a3 : In 0x100000 (u / 2048 % 2 * 1048576) := fld 20 1 _ (by simp; omega) (by decide) (by decide) (by decide)
  have a4 : In 0xff000 (u / 4096 % 256 * 4096) := fld 12 8 _ (by simp; omega) (by decide) (by decide) (by decide)
  obtain ⟨e1, m1⟩ := or_in (in7 b) (inD d hd) (by decide)
  obtain ⟨e2, m2⟩ := or_in m1 a4 (by decide)
  obtain ⟨e3, m3⟩ := or_in m2 a3 (by decide)
  obtain ⟨e4, m4⟩ := or_in m3 a2 (by decide)
  obtain ⟨e5, m5⟩ := or_in m4 a1 (by decide)
  rw [e1, e2, e3, e4, e5, hs, ht]
  unfold encF
  simp only [spreadL]
  rw [← hu]
  clear h1 h2 h3 a1 a2 a3 a4 m1 m2 m3 m4 m5 e1 e2 e3 e4 e5
  omega
theorem rE3 (f : Nat) (hf : f = 3 ∨ f = 4) (b d s t i : Int) (hb : b = b % 128 + b / 4096 % 8 * 4096) (h : okF f d s t i = true) :
    bits .or .u32 (bits .or .u32 (bits .or .u32 (bits .or .u32 (b % 128) (b / 4096 % 8 * 4096)) (d * 128)) (s * 32768)) (i % 4294967296 * 1048576 % 4294967296) = encF f b d s t i := by
  obtain ⟨hd, hs, ht, h1, h2, h3⟩ := okF_regs h
  have hd' : regL d true = true := by rcases hf with rfl | rfl <;> exact hd
  have hs' : regL s true = true := by rcases hf with rfl | rfl <;> exact hs
  have ht' : regL t false = true := by rcases hf with rfl | rfl <;> exact ht
  obtain ⟨e0, m0⟩ := or_in (in7 b) (in3 b) (by decide)
  obtain ⟨e1, m1⟩ := or_in m0 (inD d (reg_true hd')) (by decide)
  obtain ⟨e2, m2⟩ := or_in m1 (inS s (reg_true hs')) (by decide)
  obtain ⟨e3, m3⟩ := or_in m2 (inI (i % 4294967296)) (by decide)
  rw [e0, e1, e2, e3, reg_false ht']
  rcases hf with rfl | rfl <;> (unfold encF; simp only [spreadL]; omega)
theorem rE7 (b d s t i : Int) (hb : b = b % 128 + b / 4096 % 8 * 4096 + b / 33554432 * 33554432) (hb2 : 0 ≤ b ∧ b ≤ 4294967295) (h : okF 7 d s t i = true) :
    bits .or .u32 (bits .or .u32 (bits .or .u32 (bits .or .u32 (bits .or .u32 (b % 128) (b / 4096 % 8 * 4096)) (d * 128)) (s * 32768)) (i % 4294967296 * 1048576 % 4294967296)) (b / 33554432 * 33554432) = encF 7 b d s t i := by
  obtain ⟨hd, hs, ht, h1, h2, h3⟩ := okF_regs h
  simp only [leastN, greatestN] at h1 h2
  simp at h1 h2
  obtain ⟨e0, m0⟩ := or_in (in7 b) (in3 b) (by decide)
  obtain ⟨e1, m1⟩ := or_in m0 (inD d (reg_true hd)) (by decide)
  obtain ⟨e2, m2⟩ := or_in m1 (inS s (reg_true hs)) (by decide)
  obtain ⟨e3, m3⟩ := or_in m2 (inT i (by omega)) (by decide)
  obtain ⟨e4, m4⟩ := or_in m3 (in25 b hb2) (by decide)
  rw [show i % 4294967296 * 1048576 % 4294967296 = i * 1048576 by omega, e0, e1, e2, e3, e4, reg_false ht]
  unfold encF; simp only [spreadL]
  rw [show i % 4294967296 * 1048576 % 4294967296 = i * 1048576 by omega]
  omega
theorem rE6 (b d s t i : Int) (hb : b = b % 128 + b / 4096 % 8 * 4096) (h : okF 6 d s t i = true) (u : Int) (hu : u = i % 4294967296) :
    bits .or .u32 (bits .or .u32 (bits .or .u32 (bits .or .u32 (bits .or .u32 (bits .or .u32 (bits .or .u32 (b % 128) (b / 4096 % 8 * 4096)) (s * 32768)) (t * 1048576)) (u / 2048 % 2 * 128)) (u / 2 % 16 * 256)) (u / 32 % 64 * 33554432)) (u / 4096 % 2 * 2147483648) = encF 6 b d s t i := by
  obtain ⟨hd, hs, ht, h1, h2, h3⟩ := okF_regs h
  have a1 : In 0x80000000 (u / 4096 % 2 * 2147483648) := fld 31 1 _ (by simp; omega) (by decide) (by decide) (by decide)
  have a2 : In 0x7e000000 (u / 32 % 64 * 33554432) := fld 25 6 _ (by simp; omega) (by decide) (by decide) (by decide)
  have a3 : In 0xf00 (u / 2 % 16 * 256) := fld 8 4 _ (by simp; omega) (by decide) (by decide) (by decide)
  have a4 : In 0x80 (u / 2048 % 2 * 128) := fld 7 1 _ (by simp; omega) (by decide) (by decide) (by decide)
  obtain ⟨e0, m0⟩ := or_in (in7 b) (in3 b) (by decide)
  obtain ⟨e1, m1⟩ := or_in m0 (inS s (reg_true hs)) (by decide)
  obtain ⟨e2, m2⟩ := or_in m1 (inT t (reg_true ht)) (by decide)
  obtain ⟨e3, m3⟩ := or_in m2 a4 (by decide)
  obtain ⟨e4, m4⟩ := or_in m3 a3 (by decide)
  obtain ⟨e5, m5⟩ := or_in m4 a2 (by decide)
  obtain ⟨e6, m6⟩ := or_in m5 a1 (by decide)
  rw [e0, e1, e2, e3, e4, e5, e6, reg_false hd]
  unfold encF; simp only [spreadL]
  rw [← hu]
  clear h1 h2 h3 a1 a2 a3 a4 m1 m2 m3 m4 m5 e1 e2 e3 e4 e5
  omega
theorem rE5 (b d s t i : Int) (hb : b = b % 128 + b / 4096 % 8 * 4096) (h : okF 5 d s t i = true) (u : Int) (hu : u = i % 4294967296) :
    bits .or .u32 (bits .or .u32 (bits .or .u32 (bits .or .u32 (bits .or .u32 (b % 128) (b / 4096 % 8 * 4096)) (s * 32768)) (t * 1048576)) (u % 32 * 128)) (u / 32 % 128 * 33554432) = encF 5 b d s t i := by
  obtain ⟨hd, hs, ht, h1, h2, h3⟩ := okF_regs h
  have a1 : In 0xfe000000 (u / 32 % 128 * 33554432) := fld 25 7 _ (by simp; omega) (by decide) (by decide) (by decide)
  have a2 : In 0xf80 (u % 32 * 128) := fld 7 5 _ (by simp; omega) (by decide) (by decide) (by decide)
  obtain ⟨e0, m0⟩ := or_in (in7 b) (in3 b) (by decide)
  obtain ⟨e1, m1⟩ := or_in m0 (inS s (reg_true hs)) (by decide)
  obtain ⟨e2, m2⟩ := or_in m1 (inT t (reg_true ht)) (by decide)
  obtain ⟨e3, m3⟩ := or_in m2 a2 (by decide)
  obtain ⟨e4, m4⟩ := or_in m3 a1 (by decide)
  rw [e0, e1, e2, e3, e4, reg_false hd]
  unfold encF; simp only [spreadL]
  rw [← hu]
  clear h1 h2 h3 a1 a2 m1 m2 m3 m4 e1 e2 e3 e4
  omega
theorem rE8 (b d s t i : Int) (hb : b = b % 128 + b / 4096 % 8 * 4096 + b / 33554432 * 33554432) (hb2 : 0 ≤ b ∧ b ≤ 4294967295) (h : okF 8 d s t i = true) :
    bits .or .u32 (bits .or .u32 (bits .or .u32 (bits .or .u32 (bits .or .u32 (b % 128) (b / 4096 % 8 * 4096)) (d * 128)) (s * 32768)) (t * 1048576)) (b / 33554432 * 33554432) = encF 8 b d s t i := by
  obtain ⟨hd, hs, ht, h1, h2, h3⟩ := okF_regs h
  simp only [leastN, greatestN] at h1 h2
  simp at h1 h2
  obtain ⟨e0, m0⟩ := or_in (in7 b) (in3 b) (by decide)
  obtain ⟨e1, m1⟩ := or_in m0 (inD d (reg_true hd)) (by decide)
  obtain ⟨e2, m2⟩ := or_in m1 (inS s (reg_true hs)) (by decide)
  obtain ⟨e3, m3⟩ := or_in m2 (inT t (reg_true ht)) (by decide)
  obtain ⟨e4, m4⟩ := or_in m3 (in25 b hb2) (by decide)
  rw [e0, e1, e2, e3, e4, show i = 0 by omega]
  unfold encF; simp only [spreadL]
  omega
end Go.Proofs.YtbalnlodkiejcaaDoor
