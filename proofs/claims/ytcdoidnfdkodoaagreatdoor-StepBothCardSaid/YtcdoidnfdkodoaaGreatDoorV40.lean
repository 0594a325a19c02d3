import Derived.Test.YtcdoidnfdkodoaaGreatDoorV39
namespace Go.Proofs.YtcdoidnfdkodoaaGreatDoor
open Go.RowKit
set_option linter.unusedVariables false
set_option linter.unusedSimpArgs false
set_option linter.unusedSectionVars false
theorem wroteS_okG {c : Int} (hc : 1 ≤ c ∧ c ≤ 7) (h3 : c % 4 = 3) (R : Int) : (wroteS (mG c) 8 4 R).ok := by
  have h := wroteM_ok (mG_ok c) 8 (by constructor <;> omega) 4 R
  have e : wroteM (mG c) 8 4 R = wroteS (mG c) 8 4 R := by
    unfold wroteM
    rw [show numL 4 = 4 from rfl, (mG_lack c hc).2.2 (by omega)]
    rfl
  rwa [e] at h
theorem both_all (g : Gs) (ok : g.ok) (q d v : Int) (wq : 0 ≤ q ∧ q ≤ 255) (wd : 0 ≤ d ∧ d ≤ 255) (hv : 0 ≤ v ∧ v ≤ 4294967295) (w : World) (tabs : Tb w) :
    Calls Tryz.prog 13 #[stV g, .int .u8 q, .int .u8 d, .int .u32 v] w fun e w' => e = .returned (.bool true) ∧ Below w.heap.size w w' := by
  obtain ⟨z, ez, hz⟩ : ∃ z : Nat, d % 8 = z ∧ z < 8 := ⟨(d % 8).toNat, by omega, by omega⟩
  obtain ⟨c, ec, hc⟩ : ∃ c : Int, q % 7 + 1 = c ∧ (1 ≤ c ∧ c ≤ 7) := ⟨q % 7 + 1, rfl, by omega⟩
  have hv2 : 0 ≤ v % 200 ∧ v % 200 < 200 := by omega
  refine both_walk g q d v c wq wd hv hc ec z hz ez ?_ ?_ ?_ w tabs
  · intro h3
    obtain ⟨R, F, hR, hT⟩ := bo_yes z hz (v % 200) hv2 g c hc h3
    have ok1 := wroteS_okG hc h3 R
    exact ⟨_, _, { goOn g (iCm v) with f := subF R v false }, ok1, hT, rfl, bo_cmp v hv g c hc (by omega) ok1 rfl (read_w4 (mG c) 8 R (by omega)) hR⟩
  · intro h3 h1
    have hT := bo_no z hz (v % 200) hv2 g c hc h3
    rw [show (c % 2 == 1) = true by simpa using h1] at hT
    exact ⟨{ goOn g (iCm v) with f := subF 0 v false }, hT, rfl, bo_cmp v hv g c hc h1 (mG_ok c) rfl (read0 c hc) (by decide)⟩
  · intro h0
    have hT := bo_no z hz (v % 200) hv2 g c hc (by omega)
    rw [show (c % 2 == 1) = false by simp; omega] at hT
    exact ⟨hT, bo_cmp_no v g c hc h0⟩
end Go.Proofs.YtcdoidnfdkodoaaGreatDoor
