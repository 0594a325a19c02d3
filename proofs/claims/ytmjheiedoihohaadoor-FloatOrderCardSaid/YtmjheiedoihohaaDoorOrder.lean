import Derived.Test.YtmjheiedoihohaaDoorF6
import Derived.Test.YtmjheiedoihohaaDoorM6
import Derived.Test.YtmjheiedoihohaaDoorWf
namespace Go.Proofs.YtmjheiedoihohaaDoor
open Go.RowKit
set_option linter.unusedVariables false

theorem o_cmp (a b : Nat) (ha : a < 18446744073709551616) (hb : b < 18446744073709551616) (z p c : Bool) (hz : zf a b = z) (hp : pf a b = p) (hc : cf a b = c) (w : World) (tabs : Tabs w) : Calls Tryd.prog 12 #[.int .u64 a, .int .u64 b] w fun e w' =>
    e = .returned (.tuple #[.bool z, .bool p, .bool c]) ∧ Below w.heap.size w w' := by
  subst hz; subst hp; subst hc
  exact compare_any a b ha hb w tabs
theorem zpc {a b : Nat} {o : Ordering} (na : isNan a = false) (nb : isNan b = false) (h : ordN a b = some o) : zf a b = (o == .eq) ∧ pf a b = false ∧ cf a b = (o == .lt) := by
  unfold zf pf cf
  rw [na, nb, h]
  cases o <;> exact ⟨rfl, rfl, rfl⟩

theorem o_addc (a b : Nat) (w : World) : Calls Tryd.prog 14 #[.int .u64 b, .int .u64 a] w fun e w' => e = .returned (.int .u64 (fl .add a b)) ∧ Below w.heap.size w w' := by
  rw [fl_add_comm]
  exact add_any b a w
theorem o_mulc (a b : Nat) (w : World) : Calls Tryd.prog 17 #[.int .u64 b, .int .u64 a] w fun e w' => e = .returned (.int .u64 (fl .mul a b)) ∧ Below w.heap.size w w' := by
  rw [fl_mul_comm]
  exact mul_any b a w
theorem idx0 (x y z : Bool) (W : World) : (Instr.index 35 (.agg #[.bool x, .bool y, .bool z]) (.int .i64 0)).run Tryd.prog W = .ok (.bool x) W := by kernel_rfl
theorem idx1 (x y z : Bool) (W : World) : (Instr.index 35 (.agg #[.bool x, .bool y, .bool z]) (.int .i64 1)).run Tryd.prog W = .ok (.bool y) W := by kernel_rfl
theorem idx2 (x y z : Bool) (W : World) : (Instr.index 35 (.agg #[.bool x, .bool y, .bool z]) (.int .i64 2)).run Tryd.prog W = .ok (.bool z) W := by kernel_rfl
set_option maxHeartbeats 2000000 in
theorem order_main (a b : Nat) (ha : a < 18446744073709551616) (hb : b < 18446744073709551616) (na : isNan a = false) (nb : isNan b = false) (z c d : Bool) (hx : (z, c, d) = (true, false, false) ∨ (z, c, d) = (false, true, false) ∨ (z, c, d) = (false, false, true))
    (h1 : zf a b = z ∧ pf a b = false ∧ cf a b = c) (h2 : zf b a = z ∧ pf b a = false ∧ cf b a = d) (h3 : zf (negN b) (negN a) = z ∧ pf (negN b) (negN a) = false ∧ cf (negN b) (negN a) = c) (w : World) (tabs : Tabs w) :
    Calls Tryd.prog 6 #[.int .u64 a, .int .u64 b] w fun e w' => e = .returned (.bool true) ∧ Below w.heap.size w w' := by
  have ka := kind4 a
  have kb := kind4 b
  rw [na] at ka
  rw [nb] at kb
  have i0 := idx0
  have i1 := idx1
  have i2 := idx2
  rcases hx with hx | hx | hx <;> simp only [Prod.mk.injEq] at hx <;> obtain ⟨rfl, rfl, rfl⟩ := hx
  · go_enter Tryd.func6, Tryd.ntmps6
    go_wp2_with fail
    refine (known_any _ tabs).mono ?_
    rintro e w1 ⟨rfl, b2⟩
    replace tabs := tabs.below b2
    go_wp2_with fail
    refine (kind_any a ha _ tabs).mono ?_
    rintro e w1 ⟨rfl, b1⟩
    replace tabs := tabs.below b1
    replace b2 := b2.trans (b1.mono b2.size)
    clear b1
    go_wp2_with fail
    refine (kind_any b hb _ tabs).mono ?_
    rintro e w1 ⟨rfl, b1⟩
    replace tabs := tabs.below b1
    replace b2 := b2.trans (b1.mono b2.size)
    clear b1
    go_wp2_with fail
    refine (o_cmp a b ha hb _ _ _ h1.1 h1.2.1 h1.2.2 _ tabs).mono ?_
    rintro e w1 ⟨rfl, b1⟩
    replace tabs := tabs.below b1
    replace b2 := b2.trans (b1.mono b2.size)
    clear b1
    go_wp2_with fail
    refine (o_cmp b a hb ha _ _ _ h2.1 h2.2.1 h2.2.2 _ tabs).mono ?_
    rintro e w1 ⟨rfl, b1⟩
    replace tabs := tabs.below b1
    replace b2 := b2.trans (b1.mono b2.size)
    clear b1
    go_wp2_with fail
    refine (neg_any b hb _).mono ?_
    rintro e w1 ⟨rfl, rfl⟩
    go_wp2_with fail
    refine (neg_any a ha _).mono ?_
    rintro e w1 ⟨rfl, rfl⟩
    go_wp2_with fail
    refine (o_cmp (negN b) (negN a) (negN_lt hb) (negN_lt ha) _ _ _ h3.1 h3.2.1 h3.2.2 _ tabs).mono ?_
    rintro e w1 ⟨rfl, b1⟩
    replace tabs := tabs.below b1
    replace b2 := b2.trans (b1.mono b2.size)
    clear b1
    go_wp2_with fail
    refine wp_loop_rounds 4 ?_
    rw [rounds_succ]
    go_wp2_with fail
    rw [rounds_succ]
    go_wp2_with fail
    rw [rounds_succ]
    go_wp2_with fail
    rw [rounds_succ]
    go_wp2_with fail
    refine (add_any a b _).mono ?_
    rintro e w1 ⟨rfl, b1⟩
    replace tabs := tabs.below b1
    replace b2 := b2.trans (b1.mono b2.size)
    clear b1
    go_wp2_with fail
    refine (o_addc a b _).mono ?_
    rintro e w1 ⟨rfl, b1⟩
    replace tabs := tabs.below b1
    replace b2 := b2.trans (b1.mono b2.size)
    clear b1
    go_wp2_with fail
    refine (mul_any a b _).mono ?_
    rintro e w1 ⟨rfl, b1⟩
    replace tabs := tabs.below b1
    replace b2 := b2.trans (b1.mono b2.size)
    clear b1
    go_wp2_with fail
    refine (o_mulc a b _).mono ?_
    rintro e w1 ⟨rfl, b1⟩
    replace tabs := tabs.below b1
    replace b2 := b2.trans (b1.mono b2.size)
    clear b1
    go_wp2_with fail
    go_ret
    exact ⟨rfl, b2⟩
  · go_enter Tryd.func6, Tryd.ntmps6
    go_wp2_with fail
    refine (known_any _ tabs).mono ?_
    rintro e w1 ⟨rfl, b2⟩
    replace tabs := tabs.below b2
    go_wp2_with fail
    refine (kind_any a ha _ tabs).mono ?_
    rintro e w1 ⟨rfl, b1⟩
    replace tabs := tabs.below b1
    replace b2 := b2.trans (b1.mono b2.size)
    clear b1
    go_wp2_with fail
    refine (kind_any b hb _ tabs).mono ?_
    rintro e w1 ⟨rfl, b1⟩
    replace tabs := tabs.below b1
    replace b2 := b2.trans (b1.mono b2.size)
    clear b1
    go_wp2_with fail
    refine (o_cmp a b ha hb _ _ _ h1.1 h1.2.1 h1.2.2 _ tabs).mono ?_
    rintro e w1 ⟨rfl, b1⟩
    replace tabs := tabs.below b1
    replace b2 := b2.trans (b1.mono b2.size)
    clear b1
    go_wp2_with fail
    refine (o_cmp b a hb ha _ _ _ h2.1 h2.2.1 h2.2.2 _ tabs).mono ?_
    rintro e w1 ⟨rfl, b1⟩
    replace tabs := tabs.below b1
    replace b2 := b2.trans (b1.mono b2.size)
    clear b1
    go_wp2_with fail
    refine (neg_any b hb _).mono ?_
    rintro e w1 ⟨rfl, rfl⟩
    go_wp2_with fail
    refine (neg_any a ha _).mono ?_
    rintro e w1 ⟨rfl, rfl⟩
    go_wp2_with fail
    refine (o_cmp (negN b) (negN a) (negN_lt hb) (negN_lt ha) _ _ _ h3.1 h3.2.1 h3.2.2 _ tabs).mono ?_
    rintro e w1 ⟨rfl, b1⟩
    replace tabs := tabs.below b1
    replace b2 := b2.trans (b1.mono b2.size)
    clear b1
    go_wp2_with fail
    refine wp_loop_rounds 4 ?_
    rw [rounds_succ]
    go_wp2_with fail
    rw [rounds_succ]
    go_wp2_with fail
    rw [rounds_succ]
    go_wp2_with fail
    rw [rounds_succ]
    go_wp2_with fail
    refine (add_any a b _).mono ?_
    rintro e w1 ⟨rfl, b1⟩
    replace tabs := tabs.below b1
    replace b2 := b2.trans (b1.mono b2.size)
    clear b1
    go_wp2_with fail
    refine (o_addc a b _).mono ?_
    rintro e w1 ⟨rfl, b1⟩
    replace tabs := tabs.below b1
    replace b2 := b2.trans (b1.mono b2.size)
    clear b1
    go_wp2_with fail
    refine (mul_any a b _).mono ?_
    rintro e w1 ⟨rfl, b1⟩
    replace tabs := tabs.below b1
    replace b2 := b2.trans (b1.mono b2.size)
    clear b1
    go_wp2_with fail
    refine (o_mulc a b _).mono ?_
    rintro e w1 ⟨rfl, b1⟩
    replace tabs := tabs.below b1
    replace b2 := b2.trans (b1.mono b2.size)
    clear b1
    go_wp2_with fail
    go_ret
    exact ⟨rfl, b2⟩
  · go_enter Tryd.func6, Tryd.ntmps6
    go_wp2_with fail
    refine (known_any _ tabs).mono ?_
    rintro e w1 ⟨rfl, b2⟩
    replace tabs := tabs.below b2
    go_wp2_with fail
    refine (kind_any a ha _ tabs).mono ?_
    rintro e w1 ⟨rfl, b1⟩
    replace tabs := tabs.below b1
    replace b2 := b2.trans (b1.mono b2.size)
    clear b1
    go_wp2_with fail
    refine (kind_any b hb _ tabs).mono ?_
    rintro e w1 ⟨rfl, b1⟩
    replace tabs := tabs.below b1
    replace b2 := b2.trans (b1.mono b2.size)
    clear b1
    go_wp2_with fail
    refine (o_cmp a b ha hb _ _ _ h1.1 h1.2.1 h1.2.2 _ tabs).mono ?_
    rintro e w1 ⟨rfl, b1⟩
    replace tabs := tabs.below b1
    replace b2 := b2.trans (b1.mono b2.size)
    clear b1
    go_wp2_with fail
    refine (o_cmp b a hb ha _ _ _ h2.1 h2.2.1 h2.2.2 _ tabs).mono ?_
    rintro e w1 ⟨rfl, b1⟩
    replace tabs := tabs.below b1
    replace b2 := b2.trans (b1.mono b2.size)
    clear b1
    go_wp2_with fail
    refine (neg_any b hb _).mono ?_
    rintro e w1 ⟨rfl, rfl⟩
    go_wp2_with fail
    refine (neg_any a ha _).mono ?_
    rintro e w1 ⟨rfl, rfl⟩
    go_wp2_with fail
    refine (o_cmp (negN b) (negN a) (negN_lt hb) (negN_lt ha) _ _ _ h3.1 h3.2.1 h3.2.2 _ tabs).mono ?_
    rintro e w1 ⟨rfl, b1⟩
    replace tabs := tabs.below b1
    replace b2 := b2.trans (b1.mono b2.size)
    clear b1
    go_wp2_with fail
    refine wp_loop_rounds 4 ?_
    rw [rounds_succ]
    go_wp2_with fail
    rw [rounds_succ]
    go_wp2_with fail
    rw [rounds_succ]
    go_wp2_with fail
    rw [rounds_succ]
    go_wp2_with fail
    refine (add_any a b _).mono ?_
    rintro e w1 ⟨rfl, b1⟩
    replace tabs := tabs.below b1
    replace b2 := b2.trans (b1.mono b2.size)
    clear b1
    go_wp2_with fail
    refine (o_addc a b _).mono ?_
    rintro e w1 ⟨rfl, b1⟩
    replace tabs := tabs.below b1
    replace b2 := b2.trans (b1.mono b2.size)
    clear b1
    go_wp2_with fail
    refine (mul_any a b _).mono ?_
    rintro e w1 ⟨rfl, b1⟩
    replace tabs := tabs.below b1
    replace b2 := b2.trans (b1.mono b2.size)
    clear b1
    go_wp2_with fail
    refine (o_mulc a b _).mono ?_
    rintro e w1 ⟨rfl, b1⟩
    replace tabs := tabs.below b1
    replace b2 := b2.trans (b1.mono b2.size)
    clear b1
    go_wp2_with fail
    go_ret
    exact ⟨rfl, b2⟩

theorem order_walk (a b : Nat) (ha : a < 18446744073709551616) (hb : b < 18446744073709551616) (w : World) (tabs : Tabs w) : Calls Tryd.prog 6 #[.int .u64 a, .int .u64 b] w fun e w' => e = .returned (.bool true) ∧ Below w.heap.size w w' := by
  rcases na : isNan a with _ | _
  · rcases nb : isNan b with _ | _
    · have hn : isNan (negN a) = false := by rw [isNan_neg ha]; exact na
      have hm : isNan (negN b) = false := by rw [isNan_neg hb]; exact nb
      have hg := ord_neg ha hb na nb
      rcases ord3 ha hb na nb with ⟨g1, g2⟩ | ⟨g1, g2⟩ | ⟨g1, g2⟩
      · exact order_main a b ha hb na nb false true false (Or.inr (Or.inl rfl)) (zpc na nb g1) (zpc nb na g2) (zpc hm hn (hg.trans g1)) w tabs
      · exact order_main a b ha hb na nb true false false (Or.inl rfl) (zpc na nb g1) (zpc nb na g2) (zpc hm hn (hg.trans g1)) w tabs
      · exact order_main a b ha hb na nb false false true (Or.inr (Or.inr rfl)) (zpc na nb g1) (zpc nb na g2) (zpc hm hn (hg.trans g1)) w tabs
    · have ka := kind4 a
      have kb := kind4 b
      rw [na] at ka
      rw [nb] at kb
      go_enter Tryd.func6, Tryd.ntmps6
      go_wp2_with fail
      refine (known_any _ tabs).mono ?_
      rintro e w1 ⟨rfl, b2⟩
      replace tabs := tabs.below b2
      go_wp2_with fail
      refine (kind_any a ha _ tabs).mono ?_
      rintro e w1 ⟨rfl, b1⟩
      replace tabs := tabs.below b1
      replace b2 := b2.trans (b1.mono b2.size)
      clear b1
      go_wp2_with fail
      refine (kind_any b hb _ tabs).mono ?_
      rintro e w1 ⟨rfl, b1⟩
      replace tabs := tabs.below b1
      replace b2 := b2.trans (b1.mono b2.size)
      clear b1
      go_wp2_with fail
      go_ret
      exact ⟨rfl, b2⟩
  · have ka := kind4 a
    rw [na] at ka
    go_enter Tryd.func6, Tryd.ntmps6
    go_wp2_with fail
    refine (known_any _ tabs).mono ?_
    rintro e w1 ⟨rfl, b2⟩
    replace tabs := tabs.below b2
    go_wp2_with fail
    refine (kind_any a ha _ tabs).mono ?_
    rintro e w1 ⟨rfl, b1⟩
    replace tabs := tabs.below b1
    replace b2 := b2.trans (b1.mono b2.size)
    clear b1
    go_wp2_with fail
    go_ret
    exact ⟨rfl, b2⟩
end Go.Proofs.YtmjheiedoihohaaDoor
