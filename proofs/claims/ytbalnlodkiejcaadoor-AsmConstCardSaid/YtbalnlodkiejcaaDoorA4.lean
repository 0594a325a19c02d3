/- AsmMoves, AsmAgain. -/
import Derived.Test.YtbalnlodkiejcaaDoorA3
import Derived.Test.YtbalnlodkiejcaaDoorWf
namespace Go.Proofs.YtbalnlodkiejcaaDoor
open Go.RowKit
set_option linter.unusedVariables false
set_option linter.unusedSimpArgs false
set_option linter.unusedSectionVars false

theorem wfu {a : Int} (h : (Lit.int .u32 a).wf = true) : 0 ≤ a ∧ a ≤ 4294967295 := by
  simp [Lit.wf, IntKind.min, IntKind.max, IntKind.signed] at h
  obtain ⟨h0, h1⟩ := h
  exact ⟨h0, h1⟩
theorem jp3 : (true && jpB 3) = true := by decide
theorem far_wrap (f t : Int) : (f + wrap32 ((t - f) % 4294967296) % 4294967296) % 4294967296 = t % 4294967296 := by unfold wrap32; omega
theorem moves_walk (f t o : Int) (hf : 0 ≤ f ∧ f ≤ 4294967295) (ht : 0 ≤ t ∧ t ≤ 4294967295) (ho : 0 ≤ o ∧ o ≤ 4294967295) (w : World) (tabs : Tabs w) :
    Calls Tryd.prog 6 #[.int .u32 f, .int .u32 t, .int .u32 o] w fun e w' => e = .returned (.bool true) ∧ Below w.heap.size w w' := by
  obtain ⟨n, hn⟩ : ∃ n, wrap32 ((t - f) % 4294967296) = n := ⟨_, rfl⟩
  cases hl : isL 3 0 0 0 n with
  | false =>
    have hj := fun w tb => jmp_no f t n hn hl w tb
    have hg := fun w tb => tgt_no o 0 (by decide) 0 0 0 0 0 false (by kernel_rfl) (by decide) w tb
    clear hn hl
    go_enter Tryd.func6, Tryd.ntmps6
    go_wp2_with fail
    refine (kn_any _ tabs).mono ?_
    rintro e w1 ⟨rfl, b1⟩
    replace tabs := tabs.below b1
    go_wp2_with fail
    refine (hj _ tabs).mono ?_
    rintro e w2 ⟨rfl, b2⟩
    replace tabs := tabs.below b2
    replace b1 := b1.trans (b2.mono b1.size)
    go_wp2_with fail
    refine (hg _ tabs).mono ?_
    rintro e w3 ⟨rfl, b3⟩
    replace b1 := b1.trans (b3.mono b1.size)
    go_wp2_with fail
    go_ret
    exact ⟨rfl, b1⟩
  | true =>
    have hj := fun w tb => jmp_yes f t n hn hl w tb
    have he := enc_bd hl
    have hd := dec_enc hl
    have hg := fun w tb => tgt_yes o (encL 3 0 0 0 n) he 3 0 0 0 n ((o + (t - f)) % 4294967296) true hd jp3 (by subst hn; unfold wrap32; omega) w tb
    generalize encL 3 0 0 0 n = E at *
    clear hn hl hd
    go_enter Tryd.func6, Tryd.ntmps6
    go_wp2_with fail
    refine (kn_any _ tabs).mono ?_
    rintro e w1 ⟨rfl, b1⟩
    replace tabs := tabs.below b1
    go_wp2_with fail
    refine (hj _ tabs).mono ?_
    rintro e w2 ⟨rfl, b2⟩
    replace tabs := tabs.below b2
    replace b1 := b1.trans (b2.mono b1.size)
    go_wp2_with fail
    refine (hg _ tabs).mono ?_
    rintro e w3 ⟨rfl, b3⟩
    replace b1 := b1.trans (b3.mono b1.size)
    go_wp2_with fail
    go_ret
    exact ⟨rfl, b1⟩
theorem again_walk (f t o : Int) (hf : 0 ≤ f ∧ f ≤ 4294967295) (ht : 0 ≤ t ∧ t ≤ 4294967295) (ho : 0 ≤ o ∧ o ≤ 4294967295) (w : World) (tabs : Tabs w) :
    Calls Tryd.prog 5 #[.int .u32 f, .int .u32 t, .int .u32 o] w fun e w' => e = .returned (.bool true) ∧ Below w.heap.size w w' := by
  obtain ⟨n, hn⟩ : ∃ n, wrap32 ((t - f) % 4294967296) = n := ⟨_, rfl⟩
  obtain ⟨m, hm⟩ : ∃ m, wrap32 ((o - f) % 4294967296) = m := ⟨_, rfl⟩
  cases hl : isL 3 0 0 0 n with
  | false =>
    have hj := fun w tb => jmp_no f t n hn hl w tb
    clear hn hl hm
    go_enter Tryd.func5, Tryd.ntmps5
    go_wp2_with fail
    refine (kn_any _ tabs).mono ?_
    rintro e w1 ⟨rfl, b1⟩
    replace tabs := tabs.below b1
    go_wp2_with fail
    refine (hj _ tabs).mono ?_
    rintro e w2 ⟨rfl, b2⟩
    replace b1 := b1.trans (b2.mono b1.size)
    go_wp2_with fail
    go_ret
    exact ⟨rfl, b1⟩
  | true =>
    have hj := fun w tb => jmp_yes f t n hn hl w tb
    have he := enc_bd hl
    have hd := dec_enc hl
    cases hk : isL 3 0 0 0 m with
    | false =>
      have hp := fun w tb => patch_far (encL 3 0 0 0 n) f o m he hm 3 0 0 0 n true hd jp3 hk w tb
      generalize encL 3 0 0 0 n = E at *
      clear hn hl hm hd
      go_enter Tryd.func5, Tryd.ntmps5
      go_wp2_with fail
      refine (kn_any _ tabs).mono ?_
      rintro e w1 ⟨rfl, b1⟩
      replace tabs := tabs.below b1
      go_wp2_with fail
      refine (hj _ tabs).mono ?_
      rintro e w2 ⟨rfl, b2⟩
      replace tabs := tabs.below b2
      replace b1 := b1.trans (b2.mono b1.size)
      go_wp2_with fail
      refine (hp _ tabs).mono ?_
      rintro e w3 ⟨rfl, b3⟩
      replace b1 := b1.trans (b3.mono b1.size)
      go_wp2_with fail
      go_ret
      exact ⟨rfl, b1⟩
    | true =>
      have hp := fun w tb => patch_yes (encL 3 0 0 0 n) f o m he hm 3 0 0 0 n true hd jp3 hk w tb
      have he2 := enc_bd hk
      have hd2 := dec_enc hk
      have hq := fun w tb => patch_yes (encL 3 0 0 0 m) f t n he2 hn 3 0 0 0 m true hd2 jp3 hl w tb
      have hg := fun w tb => tgt_yes f (encL 3 0 0 0 m) he2 3 0 0 0 m o true hd2 jp3 (by subst hm; rw [far_wrap]; omega) w tb
      generalize encL 3 0 0 0 n = E at *
      generalize encL 3 0 0 0 m = F at *
      clear hn hl hm hd hd2 hk
      go_enter Tryd.func5, Tryd.ntmps5
      go_wp2_with fail
      refine (kn_any _ tabs).mono ?_
      rintro e w1 ⟨rfl, b1⟩
      replace tabs := tabs.below b1
      go_wp2_with fail
      refine (hj _ tabs).mono ?_
      rintro e w2 ⟨rfl, b2⟩
      replace tabs := tabs.below b2
      replace b1 := b1.trans (b2.mono b1.size)
      go_wp2_with fail
      refine (hp _ tabs).mono ?_
      rintro e w3 ⟨rfl, b3⟩
      replace tabs := tabs.below b3
      replace b1 := b1.trans (b3.mono b1.size)
      go_wp2_with fail
      refine (hq _ tabs).mono ?_
      rintro e w4 ⟨rfl, b4⟩
      replace tabs := tabs.below b4
      replace b1 := b1.trans (b4.mono b1.size)
      go_wp2_with fail
      refine (hg _ tabs).mono ?_
      rintro e w5 ⟨rfl, b5⟩
      replace b1 := b1.trans (b5.mono b1.size)
      go_wp2_with fail
      go_ret
      exact ⟨rfl, b1⟩
end Go.Proofs.YtbalnlodkiejcaaDoor
