/-
  Proved: for every input the Go function ferryman/ferrymanlaw3.RvTells returns true, and each argument reads afterwards as it read before. Conditions: none beside those that the row itself states.
  The frame is the guide's shell, filled by program; the walk's theorem stands in the imported text of this claim.
-/
import Derived.Test.YtbnocincfecmpaaDoorRows
import Derived.WalkKit
import Derived.Test.YtbnocincfecmpaaDoorTie
import Derived.Test.YtbnocincfecmpaaDoorCards
import Derived.SevenTiedAt
import Derived.Test.YtbnocincfecmpaaDoorLaid
import Derived.Test.YtbnocincfecmpaaDoorTells
import Derived.Test.YtbnocincfecmpaaDoorWd
import Derived.Test.YtbnocincfecmpaaDoorWf
import Derived.ProofKit
import Derived.OpenShut
import Derived.Below
import Derived.ShutString
namespace Go.Proofs.YtbnocincfecmpaaDoor.rvTells
open Go.ChangeShapes Go.WideShapes Go.ChangeAt Go.RowKit
open Go.ChangeMaps (open_string shut_string)
set_option linter.unusedVariables false      -- a walk need not use every 'w<i>' (that an integer argument fits its kind)

theorem own : ownKnob Tryd.prog.godebug = none := by kernel_rfl

/-! ### STEP 1: THE WALK: the Go text returns true. 'Grown w w'': the world has at most new blocks (Derived/RowKit3.lean). Part the cases AHEAD of 'go_enter' where a test parts the walk; take each callee by a contract of your own. -/
theorem walk (a0a a0b a0c a0d a0e : Int) (w0a : (Lit.int .i64 a0a).wf = true) (w0b : (Lit.int .i64 a0b).wf = true) (w0c : (Lit.int .i64 a0c).wf = true) (w0d : (Lit.int .i64 a0d).wf = true) (w0e : (Lit.int .i32 a0e).wf = true) (w : World) (tabs : Tabs w) :
    Calls Tryd.prog 7 #[wordV a0a a0b a0c a0d a0e] w fun e w' => e = .returned (.bool true) ∧ Below w.heap.size w w' := by
  have hi : -2147483648 ≤ a0e ∧ a0e ≤ 2147483647 := by
    have := w0e
    simp [Lit.wf, IntKind.min, IntKind.max, IntKind.signed] at this
    exact this
  cases hl : isL a0a a0b a0c a0d a0e with
  | true => exact tells_yes a0a a0b a0c a0d a0e hi hl w tabs
  | false => exact tells_no a0a a0b a0c a0d a0e hi hl w tabs

/-! ### THE ROW's STEP: WRITTEN OUT: LEAVE IT -/
set_option maxRecDepth 100000 in
theorem lifted (os : Os) (started : os.Started) (H : Type) (enc : TypeId × Value → H) :
    ReturnsInHanded {} Tryd.checked os 7 .any (fun w args => (Rows.rvTellsSpec.pre enc Tryd.prog Tryd.f7 [] false w args ∧ laidMetH Tryd.prog Rows.rvTellsRow.laid w) ∧ sizedMet enc Tryd.prog Tryd.f7 (OpenSpec.ofChange Rows.rvTellsSpec) false w args)
      (Rows.rvTellsSpec.post enc Tryd.prog Tryd.f7 false true false false) := by
  refine returnsInHanded_of_change_and (C := Tryd.checked) (X := fun w _ => laidMetH Tryd.prog Rows.rvTellsRow.laid w) (fun _ _ _ hh h => h.of_heap hh) own started (by kernel_rfl) Tryd.func7
    (ChangeSpec.witness_shaped (enc := enc) (C := Tryd.checked) (os := os) (X := fun w _ => laidMetH Tryd.prog Rows.rvTellsRow.laid w) false (World.doorLaid Tryd.prog 81 os) #[.agg #[.int .i64 0, .int .i64 0, .int .i64 0, .int .i64 0, .int .i32 0]] 8 rfl (World.shaped_of_RefB (by kernel_rfl) (by kernel_rfl)) (by kernel_rfl) (by kernel_rfl) (by kernel_rfl) (door_met os _)) ?_
  intro W base args ds gs before hval0 hW _ _ hL _
  have hval : ∀ (j : Nat) t v, Tryd.f7.params[j]? = some t → args[j]? = some v → Value.okWide Tryd.prog W .any base t v := hval0
  have hW' := hW
  obtain ⟨p, q, hA0, hV, rfl, hfz, hnd⟩ := hW
  have hA : DataW.TrodAll enc Tryd.prog W 0 (fun _ => true) true Tryd.f7.params.toList args.toList ds p := hA0
  rw [Tryd.params7] at hA hval
  obtain ⟨v0, vs0, d0, ds0, p0, q0, hargs, rfl, rfl, h0, r0⟩ := trodAll_cons hA
  obtain ⟨rfl, rfl, rfl⟩ := trodAll_nil r0
  obtain rfl : args = #[v0] := by cases args; simp_all
  obtain ⟨rfl, rfl⟩ := trodVars_none hV
  obtain ⟨a0a, a0b, a0c, a0d, a0e, rfl, rfl, rfl, w0a, w0b, w0c, w0d, w0e⟩ := open_word (hval 0 37 v0 rfl rfl) h0
  clear hA0 hval0
  refine (walk a0a a0b a0c a0d a0e w0a w0b w0c w0d w0e W (of_laid hL)).mono fun e W' ⟨he, bel⟩ => ?_
  subst he
  exact ⟨_, rfl, _, _, _, [], _, [], hW', trodAll_mk1 (shut_bool Tryd.underlying4 _), (trodAll_cons_mk (shut_word w0a w0b w0c w0d w0e) trodAll_mk0), rfl, bel.frame _, fun h => by cases h⟩

theorem over : Rows.rvTellsRow.holds Tryd.pinned (OpenSpec.ofChange Rows.rvTellsSpec) :=
  OpenClaim.holds_of_wide 7 Tryd.f7 rfl rfl rfl rfl rfl rfl rfl ⟨rfl, rfl, rfl, rfl, rfl⟩ rfl rfl rfl rfl rfl (by kernel_rfl) Tryd.func7 (by kernel_rfl)
    (of_decide_eq_true (by kernel_rfl)) (by unfold Func.isWrapper; first | (rw [if_pos (by decide +kernel)]; kernel_rfl) | (rw [if_neg (by decide +kernel)]; exact ⟨rfl, rfl⟩))
    (fun os started H enc _ => lifted os started H enc)

/-- ████ THE STATEMENT ████ -/
theorem proved : Rows.RvTellsSaid :=
  over
#print axioms proved

/-- ████ THE TIED CARD ████ -/
theorem card : Rows.RvTellsCardSaid :=
  Claim7.holds_tied_plain_at .later [] [.data, .data, .data, .data, .data] true (true, "4c8c809ca95bc501eea2e376147ad31b6c3ed3087f8f09e3af839ab597982570") false
    proved (fun _ h => by cases h) (by kernel_rfl) (fun _ h => by cases h) rvTells_row_tie rfl ⟨rfl, rfl⟩ (by kernel_rfl) rfl
    (fun f fn hf hfn => by
      obtain rfl : f = 7 := Option.some.inj ((show Tryd.prog.funcNamed "ferryman/ferrymanlaw3.RvTells" = some 7 by kernel_rfl).symm.trans hf) |>.symm
      obtain rfl : fn = Tryd.f7 := (Option.some.inj (Tryd.func7.symm.trans hfn)).symm
      exact ⟨by kernel_rfl, fun j t ht => by
        rw [Tryd.params7] at ht
        have hm : t ∈ [37] := by simpa using Array.mem_of_getElem? ht
        have hall : ([37].all fun u => !Tryd.prog.wantsStandIn u) = true := by kernel_rfl
        exact (show Tryd.prog.wantsStandIn t = false by simpa using List.all_eq_true.1 hall t hm)⟩)
    (by kernel_rfl)
#print axioms card
end Go.Proofs.YtbnocincfecmpaaDoor.rvTells
