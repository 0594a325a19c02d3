/- Arguments opened: instructions, lists of them. -/
import Derived.Test.YtbfkgakkkibejaaDoorZW
import Derived.Test.YtbfkgakkkibejaaDoorWf
import Derived.ProofKit
import Derived.OpenShut
import Derived.Deep.Slices
namespace Go.Proofs.YtbfkgakkkibejaaDoor
open Go.ChangeShapes Go.WideShapes Go.ChangeAt Go.RowKit
set_option linter.unusedVariables false
set_option linter.unusedSimpArgs false

theorem wf32 {a : Int} (h : (Lit.int .u32 a).wf = true) : 0 ≤ a ∧ a ≤ 4294967295 := by
  simp [Lit.wf, IntKind.has, IntKind.min, IntKind.max, IntKind.bits, IntKind.signed] at h; exact h
theorem lt_cell {w : World} {b o : Nat} {v : Value} (h : w.cell? ⟨b, o, none⟩ = some v) : b < w.heap.size := by
  by_cases hb : b < w.heap.size
  · exact hb
  · have : w.heap[b]? = none := Array.getElem?_eq_none (by omega)
    simp [World.cell?, this] at h
theorem add_pl (b off i : Nat) : (⟨b, off, none⟩ : Addr).add i = ⟨b, off + i, none⟩ := by
  unfold Addr.add
  split
  · rename_i h; first | (simp; omega) | (simp; done)
  · simp
instance : Inhabited In := ⟨inZ⟩
set_option linter.constructorNameAsVariable false
section
variable {H : Type} {enc : TypeId × Value → H} {w : World} {base : Nat} {spare : Nat → Bool} {held : Bool}
theorem cells_opd : Tryd.prog.cellsOf 24 = 6 := by kernel_rfl
theorem cells_ins : Tryd.prog.cellsOf 26 = 16 := by kernel_rfl
theorem cells_uw : Tryd.prog.cellsOf 22 = 1 := by kernel_rfl
theorem cells_iw : Tryd.prog.cellsOf 3 = 1 := by kernel_rfl
theorem cells_bw : Tryd.prog.cellsOf 4 = 1 := by kernel_rfl
set_option maxRecDepth 8000 in
theorem open_onw {fuel : Nat} {cs : List Value} {x : DataW H × List MemPlace} (h : DataW.trod enc Tryd.prog w base spare held fuel 24 cs = some x) :
    ∃ o : On, cs = [.int .i64 o.k, .int .i64 o.r, .int .u32 o.m, .int .i64 o.b, .int .i64 o.x, .int .u32 o.s] ∧ 0 ≤ o.m ∧ o.m ≤ 4294967295 := by
  obtain ⟨xs, n, _, -, hl, hlen, hq⟩ := DataW.trod_struct Tryd.underlying24 h
  rw [cells_opd] at hl
  match cs, hl with
  | [c0, c1, c2, c3, c4, c5], _ =>
  match xs, hlen with
  | [y0, y1, y2, y3, y4, y5], _ =>
  have g0 := hq 0 _ rfl
  have g1 := hq 1 _ rfl
  have g2 := hq 2 _ rfl
  have g3 := hq 3 _ rfl
  have g4 := hq 4 _ rfl
  have g5 := hq 5 _ rfl
  simp [cells_iw, cells_uw] at g0 g1 g2 g3 g4 g5
  obtain ⟨a0, e0, -⟩ := DataW.trod_int Tryd.underlying3 g0
  obtain ⟨a1, e1, -⟩ := DataW.trod_int Tryd.underlying3 g1
  obtain ⟨a2, e2, -, w2⟩ := DataW.trod_int Tryd.underlying22 g2
  obtain ⟨a3, e3, -⟩ := DataW.trod_int Tryd.underlying3 g3
  obtain ⟨a4, e4, -⟩ := DataW.trod_int Tryd.underlying3 g4
  obtain ⟨a5, e5, -⟩ := DataW.trod_int Tryd.underlying22 g5
  simp at e0 e1 e2 e3 e4 e5
  subst e0 e1 e2 e3 e4 e5
  exact ⟨⟨a0, a1, a2, a3, a4, a5⟩, rfl, wf32 w2⟩
set_option maxRecDepth 8000 in
theorem open_inw {fuel : Nat} {cs : List Value} {x : DataW H × List MemPlace} (h : DataW.trod enc Tryd.prog w base spare held fuel 26 cs = some x) :
    ∃ i : In, cs = (in16 i).toList ∧ Wd i := by
  obtain ⟨xs, n, _, -, hl, hlen, hq⟩ := DataW.trod_struct Tryd.underlying26 h
  rw [cells_ins] at hl
  match cs, hl with
  | [c0, c1, c2, c3, c4, c5, c6, c7, c8, c9, c10, c11, c12, c13, c14, c15], _ =>
  match xs, hlen with
  | [y0, y1, y2, y3, y4, y5], _ =>
  have g0 := hq 0 _ rfl
  have g1 := hq 1 _ rfl
  have g2 := hq 2 _ rfl
  have g3 := hq 3 _ rfl
  have g4 := hq 4 _ rfl
  have g5 := hq 5 _ rfl
  simp [cells_iw, cells_opd, cells_bw] at g0 g1 g2 g3 g4 g5
  obtain ⟨a0, e0, -⟩ := DataW.trod_int Tryd.underlying3 g0
  obtain ⟨a1, e1, -⟩ := DataW.trod_int Tryd.underlying3 g1
  obtain ⟨A, e2, hA⟩ := open_onw g2
  obtain ⟨B, e3, hB⟩ := open_onw g3
  obtain ⟨a4, e4, -⟩ := DataW.trod_bool Tryd.underlying4 g4
  obtain ⟨a5, e5, -⟩ := DataW.trod_int Tryd.underlying3 g5
  simp at e0 e1 e2 e3 e4 e5
  exact ⟨⟨a0, a1, A, B, a4, a5⟩, by simp [e0, e1, e2, e3, e4, e5], ⟨hA, hB⟩⟩
set_option maxRecDepth 100000 in
theorem open_wd {r : Reach} {b0 : Nat} {v : Value} {d : DataW H} {ps : List MemPlace} (hval : Value.okWide Tryd.prog w r b0 26 v) (hd : DataW.Trod enc Tryd.prog w base spare held 26 v d ps) :
    ∃ i : In, v = inV i ∧ Wd i := by
  obtain ⟨cs, rfl, hsz⟩ := okWide_struct Tryd.underlying26 hval
  obtain ⟨fuel, hf⟩ := hd
  obtain ⟨i, hf, hi⟩ := open_inw hf
  refine ⟨i, congrArg Value.agg (Array.ext' ?_), hi⟩
  simpa [Value.cells] using hf
set_option maxRecDepth 100000 in
theorem open_il {r : Reach} {b0 : Nat} {v : Value} {d : DataW H} {ps : List MemPlace} (hval : Value.okWide Tryd.prog w r b0 40 v) (hd : DataW.Trod enc Tryd.prog w base spare held 40 v d ps) :
    ∃ a len cap ks, v = .slice a len cap ∧ (Il w (.slice a len cap) ks ∧ ∀ k ∈ ks, Wd k) := by
  obtain ⟨a, len, cap, rfl⟩ := okWide_slice Tryd.underlying40 hval
  obtain ⟨fuel, hf⟩ := hd
  rcases Go.Deep.open_slice Tryd.underlying40 hf with ⟨hcs, -⟩ | ⟨x, l, c, m, n, D, Pl, hcs, hb, hl, hm, hmm, -, hall⟩
  · simp [Value.cells] at hcs
    obtain ⟨rfl, rfl, rfl⟩ := hcs
    exact ⟨none, 0, 0, [], rfl, ⟨_, _, rfl, .inl rfl⟩, by simp⟩
  · simp [Value.cells] at hcs
    obtain ⟨rfl, rfl, rfl⟩ := hcs
    have hlm : len ≤ m := by rw [hmm]; split <;> omega
    have key : ∀ i, i < len → ∃ s : In, (∀ j v, (in16 s).toList[j]? = some v → w.cell? ((x.add (i * 16)).add j) = some v) ∧ Wd s := by
      intro i hi
      obtain ⟨cs', h1, h2⟩ := hall i (by omega)
      rw [cells_ins] at h1
      obtain ⟨s, rfl, hs⟩ := open_inw h2
      obtain ⟨-, -, hc⟩ := World.cells?_some h1
      refine ⟨s, fun j v hv => ?_, hs⟩
      have hj : j < 16 := by have := (List.getElem?_eq_some_iff.1 hv).1; simpa using this
      rw [hc j hj, hv]
    obtain ⟨Y, hY⟩ := Go.Deep.choose_lt (α := In) key
    refine ⟨some x, len, cap, (List.range len).map Y, rfl, ?_, ?_⟩
    · refine ⟨some x, cap, by simp, ?_⟩
      by_cases h0 : len = 0
      · subst h0; exact .inl rfl
      · have e0 := (hY 0 (by omega)).1 0 _ rfl
        obtain ⟨b, off, sp⟩ := x
        have hsp : sp = none := by
          cases sp with
          | none => rfl
          | some q =>
            simp [Addr.add, World.cell?] at e0
            split at e0 <;> simp at e0
        subst hsp
        have e1 := e0
        rw [add_pl, add_pl] at e1
        refine .inr ⟨b, off, rfl, lt_cell e1, fun i k hk j u hu => ?_⟩
        have hi : i < len := by have := (List.getElem?_eq_some_iff.1 hk).1; simpa using this
        obtain rfl : Y i = k := by simpa [hi] using hk
        have := (hY i hi).1 j u hu
        rw [add_pl, add_pl] at this
        exact this
    · intro k hk
      simp only [List.mem_map, List.mem_range] at hk
      obtain ⟨i, hi, rfl⟩ := hk
      exact (hY i hi).2
end
end Go.Proofs.YtbfkgakkkibejaaDoor
