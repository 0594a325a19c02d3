/- Arguments opened: bytes. -/
import Derived.Test.YtgamghmeefoopaaDoorA0
import Derived.ChangeSlices
namespace Go.Proofs.YtgamghmeefoopaaDoor
open Go.ChangeShapes Go.WideShapes Go.ChangeAt Go.RowKit
set_option linter.unusedVariables false
set_option linter.unusedSimpArgs false
set_option linter.unusedSectionVars false

def BytesAt (w : World) (a : Option Addr) (len : Nat) (Z : Nat → Int) : Prop :=
  len = 0 ∨ ∃ b off, a = some ⟨b, off, none⟩ ∧ ∀ i, i < len → w.cell? ⟨b, off + i, none⟩ = some (.int .u8 (Z i)) ∧ 0 ≤ Z i ∧ Z i ≤ 255
section
variable {H : Type} {enc : TypeId × Value → H} {w : World} {base : Nat} {spare : Nat → Bool} {held : Bool}
set_option maxRecDepth 8000 in
theorem open_bs {r : Reach} {b0 : Nat} {v : Value} {d : DataW H} {ps : List MemPlace} (hval : Value.okWide Tryd.prog w r b0 49 v) (hd : DataW.Trod enc Tryd.prog w base spare held 49 v d ps) :
    ∃ a len cap Z, v = .slice a len cap ∧ BytesAt w a len Z := by
  obtain ⟨a, len, cap, rfl⟩ := okWide_slice Tryd.underlying49 hval
  obtain ⟨fuel, hf⟩ := hd
  rcases open_ints Tryd.underlying49 Tryd.underlying5 (by kernel_rfl) hf with ⟨hcs, _⟩ | ⟨x, l, c, zs, hcs, _, hl, hm, hz, _, hcell, hwz⟩
  · simp [Value.cells] at hcs
    exact ⟨_, _, _, fun _ => 0, rfl, .inl hcs.2.1⟩
  · simp [Value.cells] at hcs
    obtain ⟨rfl, rfl, rfl⟩ := hcs
    by_cases h0 : len = 0
    · exact ⟨_, _, _, fun _ => 0, rfl, .inl h0⟩
    · have hlm : len ≤ zs.length := by rw [hz]; split <;> omega
      obtain ⟨b, off, sp⟩ := x
      have hsp : sp = none := by
        have hz := hcell 0 (by omega)
        simp [Addr.add, World.cell?] at hz
        cases sp with
        | none => rfl
        | some q => split at hz <;> simp at hz
      subst hsp
      refine ⟨_, _, _, fun i => zs.getD i 0, rfl, .inr ⟨b, off, rfl, fun i hi => ?_⟩⟩
      have e : (⟨b, off, none⟩ : Addr).add i = ⟨b, off + i, none⟩ := by
        unfold Addr.add
        split
        · rename_i h; first | (simp; omega) | (simp; done)
        · simp
      have hc := hcell i (by omega)
      rw [e] at hc
      refine ⟨hc, wfn_u8 (hwz _ ?_)⟩
      have : i < zs.length := by omega
      simp [List.getD_eq_getElem?_getD, List.getElem?_eq_getElem this]
end
end Go.Proofs.YtgamghmeefoopaaDoor
