/- Arguments opened: lists of bytes. -/
import Derived.Test.YtbfkgakkkibejaaDoorP16
import Derived.Test.YtbfkgakkkibejaaDoorWf
import Derived.ProofKit
import Derived.OpenShut
import Derived.Deep.Slices
namespace Go.Proofs.YtbfkgakkkibejaaDoor
open Go.ChangeShapes Go.WideShapes Go.ChangeAt Go.RowKit
set_option linter.unusedVariables false
set_option linter.unusedSimpArgs false

theorem wfa_u8 {a : Int} (h : (Lit.int .u8 a).wf = true) : 0 ≤ a ∧ a ≤ 255 := by
  simp [Lit.wf, IntKind.has, IntKind.min, IntKind.max, IntKind.bits, IntKind.signed] at h; exact h
theorem wfa_u32 {a : Int} (h : (Lit.int .u32 a).wf = true) : 0 ≤ a ∧ a ≤ 4294967295 := by
  simp [Lit.wf, IntKind.has, IntKind.min, IntKind.max, IntKind.bits, IntKind.signed] at h; exact h
section
variable {H : Type} {enc : TypeId × Value → H} {w : World} {base : Nat} {spare : Nat → Bool} {held : Bool}
theorem cells_u8 : Tryd.prog.cellsOf 5 = 1 := by kernel_rfl
theorem plain_add (b off i : Nat) : (⟨b, off, none⟩ : Addr).add i = ⟨b, off + i, none⟩ := by
  unfold Addr.add
  split
  · rename_i h; first | (simp; omega) | (simp; done)
  · simp
set_option maxRecDepth 8000 in
theorem open_ba {r : Reach} {b0 : Nat} {v : Value} {d : DataW H} {ps : List MemPlace} (hval : Value.okWide Tryd.prog w r b0 28 v) (hd : DataW.Trod enc Tryd.prog w base spare held 28 v d ps) :
    ∃ a len cap zs, v = .slice a len cap ∧ Ba w a len cap zs := by
  obtain ⟨a, len, cap, rfl⟩ := okWide_slice Tryd.underlying28 hval
  obtain ⟨fuel, hf⟩ := hd
  rcases Go.Deep.open_slice1 Tryd.underlying28 cells_u8 hf with ⟨hcs, -⟩ | ⟨x, l, c, m, n, V, D, Pl, hcs, hb, hl, hm, hmm, -, hall⟩
  · simp [Value.cells] at hcs
    obtain ⟨rfl, rfl, rfl⟩ := hcs
    exact ⟨_, _, _, [], rfl, ⟨⟨rfl, by simp, .inl rfl⟩, Nat.le_refl _, by decide, fun _ => rfl⟩⟩
  · simp [Value.cells] at hcs
    obtain ⟨rfl, rfl, rfl⟩ := hcs
    have hlm : len ≤ m := by rw [hmm]; split <;> omega
    have key : ∀ i, i < len → ∃ z, w.cell? (x.add i) = some (.int .u8 z) ∧ 0 ≤ z ∧ z ≤ 255 := by
      intro i hi
      obtain ⟨h1, h2⟩ := hall i (by omega)
      obtain ⟨z, e, -, hw⟩ := DataW.trod_int Tryd.underlying5 h2
      have e' : V i = .int .u8 z := by simpa using e
      rw [e'] at h1
      exact ⟨z, h1, wfa_u8 hw⟩
    obtain ⟨Z, hZ⟩ := Go.Deep.choose_lt (α := Int) (p := fun i z => w.cell? (x.add i) = some (.int .u8 z) ∧ 0 ≤ z ∧ z ≤ 255) key
    refine ⟨_, _, _, (List.range len).map Z, rfl, ⟨⟨by simp, ?_, ?_⟩, hl, by simp only [maxLen] at hm; omega, fun e => by cases e⟩⟩
    · intro z hz
      simp only [List.mem_map, List.mem_range] at hz
      obtain ⟨i, hi, rfl⟩ := hz
      exact (hZ i hi).2
    · by_cases h0 : len = 0
      · subst h0; exact .inl rfl
      · have e0 := (hZ 0 (by omega)).1
        obtain ⟨b, off, sp⟩ := x
        have hsp : sp = none := by
          cases sp with
          | none => rfl
          | some q =>
            simp [Addr.add, World.cell?] at e0
            split at e0 <;> simp at e0
        subst hsp
        have e1 := e0
        rw [plain_add] at e1
        refine .inr ⟨b, off, rfl, size_of_cell e1, fun i hi => ?_⟩
        have := (hZ i hi).1
        rw [plain_add] at this
        rw [this]
        simp [List.getD_eq_getElem?_getD, hi]
end
end Go.Proofs.YtbfkgakkkibejaaDoor
