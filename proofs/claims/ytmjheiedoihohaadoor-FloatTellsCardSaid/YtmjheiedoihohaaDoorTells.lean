import Derived.Test.YtmjheiedoihohaaDoorF6
import Derived.Test.YtmjheiedoihohaaDoorWf
namespace Go.Proofs.YtmjheiedoihohaaDoor
open Go.RowKit
set_option linter.unusedVariables false

set_option maxHeartbeats 1000000 in
theorem tells_walk (a b : Nat) (ha : a < 18446744073709551616) (hb : b < 18446744073709551616) (w : World) (tabs : Tabs w) : Calls Tryd.prog 3 #[.int .u64 a, .int .u64 b] w fun e w' => e = .returned (.bool true) ∧ Below w.heap.size w w' := by
  have hx : bits .xor .u64 a 9223372036854775808 = (negN a : Nat) := by
    rw [show (9223372036854775808 : Int) = ((9223372036854775808 : Nat) : Int) from rfl, u64_xor_nat _ _ ha (by decide), xor_top a ha]
  have hn := andNot_top a ha
  go_enter Tryd.func3, Tryd.ntmps3
  go_wp2_with fail
  refine (known_any _ tabs).mono ?_
  rintro e w1 ⟨rfl, b2⟩
  replace tabs := tabs.below b2
  go_wp2_with fail
  refine (compare_any a b ha hb _ tabs).mono ?_
  rintro e w1 ⟨rfl, b1⟩
  replace tabs := tabs.below b1
  replace b2 := b2.trans (b1.mono b2.size)
  clear b1
  go_wp2_with fail
  refine (rcompare_any a b ha hb _).mono ?_
  rintro e w1 ⟨rfl, b1⟩
  replace tabs := tabs.below b1
  replace b2 := b2.trans (b1.mono b2.size)
  clear b1
  go_wp2_with fail
  refine (add_any a b _).mono ?_
  rintro e w1 ⟨rfl, b1⟩
  replace tabs := tabs.below b1
  replace b2 := b2.trans (b1.mono b2.size)
  clear b1
  go_wp2_with fail
  refine (do0_any a b _).mono ?_
  rintro e w1 ⟨rfl, b1⟩
  replace tabs := tabs.below b1
  replace b2 := b2.trans (b1.mono b2.size)
  clear b1
  go_wp2_with fail
  refine (sub_any a b _).mono ?_
  rintro e w1 ⟨rfl, b1⟩
  replace tabs := tabs.below b1
  replace b2 := b2.trans (b1.mono b2.size)
  clear b1
  go_wp2_with fail
  refine (do1_any a b _).mono ?_
  rintro e w1 ⟨rfl, b1⟩
  replace tabs := tabs.below b1
  replace b2 := b2.trans (b1.mono b2.size)
  clear b1
  go_wp2_with fail
  refine (mul_any a b _).mono ?_
  rintro e w1 ⟨rfl, b1⟩
  replace tabs := tabs.below b1
  replace b2 := b2.trans (b1.mono b2.size)
  clear b1
  go_wp2_with fail
  refine (do2_any a b _).mono ?_
  rintro e w1 ⟨rfl, b1⟩
  replace tabs := tabs.below b1
  replace b2 := b2.trans (b1.mono b2.size)
  clear b1
  go_wp2_with fail
  refine (div_any a b _).mono ?_
  rintro e w1 ⟨rfl, b1⟩
  replace tabs := tabs.below b1
  replace b2 := b2.trans (b1.mono b2.size)
  clear b1
  go_wp2_with fail
  refine (do3_any a b _).mono ?_
  rintro e w1 ⟨rfl, b1⟩
  replace tabs := tabs.below b1
  replace b2 := b2.trans (b1.mono b2.size)
  clear b1
  go_wp2_with fail
  refine (neg_any a ha _).mono ?_
  rintro e w1 ⟨rfl, rfl⟩
  go_wp2_with fail
  refine (abs_any a ha _).mono ?_
  rintro e w1 ⟨rfl, rfl⟩
  go_wp2_with fail
  refine (kind_any a ha _ tabs).mono ?_
  rintro e w1 ⟨rfl, b1⟩
  replace tabs := tabs.below b1
  replace b2 := b2.trans (b1.mono b2.size)
  clear b1
  go_wp2_with fail
  refine (rkind_any a ha _).mono ?_
  rintro e w1 ⟨rfl, rfl⟩
  go_wp2_with fail
  refine (text_any a ha _ tabs).mono ?_
  rintro e w1 ⟨rfl, b1⟩
  replace tabs := tabs.below b1
  replace b2 := b2.trans (b1.mono b2.size)
  clear b1
  go_wp2_with fail
  refine (rtext_any a ha _).mono ?_
  rintro e w1 ⟨rfl, b1⟩
  replace tabs := tabs.below b1
  replace b2 := b2.trans (b1.mono b2.size)
  clear b1
  go_wp2_with fail
  go_ret
  exact ⟨rfl, b2⟩
end Go.Proofs.YtmjheiedoihohaaDoor
