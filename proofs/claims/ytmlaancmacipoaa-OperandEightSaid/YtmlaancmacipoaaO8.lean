/- Arguments opened: spans. -/
import Derived.Test.YtmlaancmacipoaaP4
import Derived.Test.YtmlaancmacipoaaO6
import Derived.ProofKit
import Derived.OpenShut
import Derived.Deep.Slices
namespace Go.Proofs.Ytmlaancmacipoaa
open Go.ChangeShapes Go.WideShapes Go.ChangeAt Go.RowKit
set_option linter.unusedVariables false
set_option linter.unusedSimpArgs false

theorem cell_lt {w : World} {b o : Nat} {v : Value} (h : w.cell? ⟨b, o, none⟩ = some v) : b < w.heap.size := by
  by_cases hb : b < w.heap.size
  · exact hb
  · have : w.heap[b]? = none := Array.getElem?_eq_none (by omega)
    simp [World.cell?, this] at h
theorem add_plain (b off i : Nat) : (⟨b, off, none⟩ : Addr).add i = ⟨b, off + i, none⟩ := by
  unfold Addr.add
  split
  · rename_i h; first | (simp; omega) | (simp; done)
  · simp
instance : Inhabited Sp := ⟨⟨0, 0, 0, ⟨#[]⟩⟩⟩
section
variable {H : Type} {enc : TypeId × Value → H} {w : World} {base : Nat} {spare : Nat → Bool} {held : Bool}
theorem cells_i : Try.prog.cellsOf 3 = 1 := by kernel_rfl
theorem cells_u : Try.prog.cellsOf 23 = 1 := by kernel_rfl
theorem cells_s : Try.prog.cellsOf 9 = 1 := by kernel_rfl
theorem cells_ss : Try.prog.cellsOf 22 = 1 := by kernel_rfl
theorem cells_sp : Try.prog.cellsOf 68 = 4 := by kernel_rfl
theorem max_len : (maxLen : Nat) ≤ 9223372036854775807 := by decide
theorem wf_i64 {z : Int} (h : (Lit.int .i64 z).wf = true) : -9223372036854775808 ≤ z ∧ z ≤ 9223372036854775807 := by simp [Lit.wf, IntKind.has, IntKind.min, IntKind.max, IntKind.bits, IntKind.signed] at h; exact h
theorem wf_u32 {z : Int} (h : (Lit.int .u32 z).wf = true) : 0 ≤ z ∧ z ≤ 4294967295 := by simp [Lit.wf, IntKind.has, IntKind.min, IntKind.max, IntKind.bits, IntKind.signed] at h; exact h
theorem wf_u8 {z : Int} (h : (Lit.int .u8 z).wf = true) : 0 ≤ z ∧ z ≤ 255 := by simp [Lit.wf, IntKind.has, IntKind.min, IntKind.max, IntKind.bits, IntKind.signed] at h; exact h
set_option maxRecDepth 8000 in
theorem open_span {fuel : Nat} {cs : List Value} {x : DataW H × List MemPlace} (h : DataW.trod enc Try.prog w base spare held fuel 68 cs = some x) :
    ∃ y : Sp, cs = [.int .i64 y.p, .int .i64 y.n, .int .i64 y.r, .string y.s] ∧ I64 y.p ∧ (y.s.size : Int) ≤ 9223372036854775807 := by
  obtain ⟨xs, n, _, -, hl, hlen, hq⟩ := DataW.trod_struct Try.underlying68 h
  rw [cells_sp] at hl
  match cs, hl with
  | [c0, c1, c2, c3], _ =>
  match xs, hlen with
  | [y0, y1, y2, y3], _ =>
  have g0 := hq 0 _ rfl
  have g1 := hq 1 _ rfl
  have g2 := hq 2 _ rfl
  have g3 := hq 3 _ rfl
  simp [cells_i, cells_s] at g0 g1 g2 g3
  obtain ⟨a0, e0, -, w0⟩ := DataW.trod_int Try.underlying3 g0
  obtain ⟨a1, e1, -, w1⟩ := DataW.trod_int Try.underlying3 g1
  obtain ⟨a2, e2, -, w2⟩ := DataW.trod_int Try.underlying3 g2
  obtain ⟨s, e3, -, w3⟩ := DataW.trod_string Try.underlying9 g3
  simp at e0 e1 e2 e3
  subst e0 e1 e2 e3
  exact ⟨⟨a0, a1, a2, s⟩, rfl, wf_i64 w0, by have := max_len; dsimp only; omega⟩
set_option maxRecDepth 8000 in
theorem open_spans {fuel : Nat} {cs : List Value} {x : DataW H × List MemPlace} (h : DataW.trod enc Try.prog w base spare held fuel 22 cs = some x) :
    ∃ a len cap L, cs = [.slice a len cap] ∧ SpansAt w a len L ∧ len ≤ 9223372036854775807 := by
  rcases Go.Deep.open_slice Try.underlying22 h with ⟨rfl, -⟩ | ⟨a, len, cap, m, n, D, Pl, rfl, hb, hl, hm, hmm, -, hall⟩
  · exact ⟨none, 0, 0, [], rfl, ⟨rfl, by simp, .inl rfl⟩, by omega⟩
  · have hlm : len ≤ m := by rw [hmm]; split <;> omega
    have key : ∀ i, i < len → ∃ y : Sp, (w.cell? ((a.add (i * 4)).add 0) = some (.int .i64 y.p) ∧ w.cell? ((a.add (i * 4)).add 1) = some (.int .i64 y.n) ∧ w.cell? ((a.add (i * 4)).add 2) = some (.int .i64 y.r) ∧ w.cell? ((a.add (i * 4)).add 3) = some (.string y.s)) ∧ I64 y.p ∧ (y.s.size : Int) ≤ 9223372036854775807 := by
      intro i hi
      obtain ⟨cs', h1, h2⟩ := hall i (by omega)
      rw [cells_sp] at h1
      obtain ⟨y, rfl, hp, hs⟩ := open_span h2
      obtain ⟨-, -, hc⟩ := World.cells?_some h1
      exact ⟨y, ⟨hc 0 (by omega), hc 1 (by omega), hc 2 (by omega), hc 3 (by omega)⟩, hp, hs⟩
    obtain ⟨Y, hY⟩ := Go.Deep.choose_lt (α := Sp) key
    have hlen : len ≤ 9223372036854775807 := by have := max_len; omega
    refine ⟨some a, len, cap, (List.range len).map Y, rfl, ⟨by simp, ?_, ?_⟩, hlen⟩
    · intro y hy
      simp only [List.mem_map, List.mem_range] at hy
      obtain ⟨i, hi, rfl⟩ := hy
      exact (hY i hi).2
    · by_cases h0 : len = 0
      · subst h0; exact .inl rfl
      · have e0 := (hY 0 (by omega)).1.1
        obtain ⟨b, off, sp⟩ := a
        have hsp : sp = none := by
          cases sp with
          | none => rfl
          | some q =>
            simp [Addr.add, World.cell?] at e0
            split at e0 <;> simp at e0
        subst hsp
        have e1 := e0
        rw [add_plain, add_plain] at e1
        refine .inr ⟨b, off, rfl, cell_lt e1, fun i y hy => ?_⟩
        have hi : i < len := by have := (List.getElem?_eq_some_iff.1 hy).1; simpa using this
        obtain rfl : Y i = y := by simpa [hi] using hy
        obtain ⟨⟨q0, q1, q2, q3⟩, -, -⟩ := hY i hi
        rw [add_plain, add_plain] at q0 q1 q2 q3
        rw [show off + 4 * i = off + i * 4 by omega]
        exact ⟨q0, q1, q2, q3⟩
set_option maxRecDepth 8000 in
theorem open_spn {r : Reach} {b0 : Nat} {v : Value} {d : DataW H} {ps : List MemPlace} (hval : Value.okWide Try.prog w r b0 22 v) (hd : DataW.Trod enc Try.prog w base spare held 22 v d ps) :
    ∃ a len cap L, v = .slice a len cap ∧ (SpansAt w a len L ∧ len ≤ 9223372036854775807) := by
  obtain ⟨a, len, cap, rfl⟩ := okWide_slice Try.underlying22 hval
  obtain ⟨fuel, hf⟩ := hd
  obtain ⟨a', len', cap', L, hcs, hs, hl⟩ := open_spans hf
  simp [Value.cells] at hcs
  obtain ⟨rfl, rfl, rfl⟩ := hcs
  exact ⟨_, _, _, L, rfl, hs, hl⟩
end
end Go.Proofs.Ytmlaancmacipoaa
